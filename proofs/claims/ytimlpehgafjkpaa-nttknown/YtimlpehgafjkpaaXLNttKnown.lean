/- The walk of NttKnown. -/
import Derived.Test.YtimlpehgafjkpaaXNT26
import Derived.Test.YtimlpehgafjkpaaXLNttPowers
namespace Go.Proofs.Ytimlpehgafjkpaa
open Go.RowKit Go.Maps
set_option linter.unusedVariables false
set_option linter.unusedSimpArgs false

theorem lit0 (w : World) : Rd (w.alloc (.cells #[.int .u32 1, .int .u32 2] 22)) (.slice (some ⟨w.heap.size, 0, none⟩) 2 2) [1, 2] :=
  (Blk.lit w [1, 2] (Ok.cons (by omega) (Ok.cons (by omega) Ok.nil)) #[.int .u32 1, .int .u32 2] rfl).rdAll 2 (by simp) (by unfold maxLen; omega)
theorem lit1 (w : World) : Rd (w.alloc (.cells #[.int .u32 0, .int .u32 1, .int .u32 0, .int .u32 0] 22)) (.slice (some ⟨w.heap.size, 0, none⟩) 4 4) [0, 1, 0, 0] :=
  (Blk.lit w [0, 1, 0, 0] (Ok.cons (by omega) (Ok.cons (by omega) (Ok.cons (by omega) (Ok.cons (by omega) Ok.nil)))) #[.int .u32 0, .int .u32 1, .int .u32 0, .int .u32 0] rfl).rdAll 4 (by simp) (by unfold maxLen; omega)
theorem lit2 (w : World) : Rd (w.alloc (.cells #[.int .u32 1, .int .u32 2, .int .u32 3] 22)) (.slice (some ⟨w.heap.size, 0, none⟩) 3 3) [1, 2, 3] :=
  (Blk.lit w [1, 2, 3] (Ok.cons (by omega) (Ok.cons (by omega) (Ok.cons (by omega) Ok.nil))) #[.int .u32 1, .int .u32 2, .int .u32 3] rfl).rdAll 3 (by simp) (by unfold maxLen; omega)
theorem lit3 (w : World) : Rd (w.alloc (.cells #[.int .u32 5, .int .u32 5, .int .u32 5, .int .u32 5] 22)) (.slice (some ⟨w.heap.size, 0, none⟩) 4 4) [5, 5, 5, 5] :=
  (Blk.lit w [5, 5, 5, 5] (Ok.cons (by omega) (Ok.cons (by omega) (Ok.cons (by omega) (Ok.cons (by omega) Ok.nil)))) #[.int .u32 5, .int .u32 5, .int .u32 5, .int .u32 5] rfl).rdAll 4 (by simp) (by unfold maxLen; omega)
theorem lit4 (w : World) : Rd (w.alloc (.cells #[.int .u32 1, .int .u32 998244353] 22)) (.slice (some ⟨w.heap.size, 0, none⟩) 2 2) [1, 998244353] :=
  (Blk.lit w [1, 998244353] (Ok.cons (by omega) (Ok.cons (by omega) Ok.nil)) #[.int .u32 1, .int .u32 998244353] rfl).rdAll 2 (by simp) (by unfold maxLen; omega)
theorem lit5 (w : World) : Rd (w.alloc (.cells #[.int .u32 1] 22)) (.slice (some ⟨w.heap.size, 0, none⟩) 1 1) [1] :=
  (Blk.lit w [1] (Ok.cons (by omega) Ok.nil) #[.int .u32 1] rfl).rdAll 1 (by simp) (by unfold maxLen; omega)
theorem lit6 (w : World) : Rd (w.alloc (.cells #[.int .u32 3, .int .u32 998244352] 22)) (.slice (some ⟨w.heap.size, 0, none⟩) 2 2) [3, 998244352] :=
  (Blk.lit w [3, 998244352] (Ok.cons (by omega) (Ok.cons (by omega) Ok.nil)) #[.int .u32 3, .int .u32 998244352] rfl).rdAll 2 (by simp) (by unfold maxLen; omega)
theorem lit7 (w : World) : Rd (w.alloc (.cells #[.int .u32 4, .int .u32 13, .int .u32 22, .int .u32 15] 22)) (.slice (some ⟨w.heap.size, 0, none⟩) 4 4) [4, 13, 22, 15] :=
  (Blk.lit w [4, 13, 22, 15] (Ok.cons (by omega) (Ok.cons (by omega) (Ok.cons (by omega) (Ok.cons (by omega) Ok.nil)))) #[.int .u32 4, .int .u32 13, .int .u32 22, .int .u32 15] rfl).rdAll 4 (by simp) (by unfold maxLen; omega)
theorem lit8 (w : World) : Rd (w.alloc (.cells #[.int .u32 5, .int .u32 0, .int .u32 0, .int .u32 0] 22)) (.slice (some ⟨w.heap.size, 0, none⟩) 4 4) [5, 0, 0, 0] :=
  (Blk.lit w [5, 0, 0, 0] (Ok.cons (by omega) (Ok.cons (by omega) (Ok.cons (by omega) (Ok.cons (by omega) Ok.nil)))) #[.int .u32 5, .int .u32 0, .int .u32 0, .int .u32 0] rfl).rdAll 4 (by simp) (by unfold maxLen; omega)
theorem litx (w : World) : Rd (w.alloc (.cells #[.int .u32 4, .int .u32 5] 22)) (.slice (some ⟨w.heap.size, 0, none⟩) 2 2) [4, 5] :=
  (Blk.lit w [4, 5] (Ok.cons (by omega) (Ok.cons (by omega) Ok.nil)) #[.int .u32 4, .int .u32 5] rfl).rdAll 2 (by simp) (by unfold maxLen; omega)
theorem ca1 (w : World) : Calls Try.prog 14 #[.slice (some ⟨w.heap.size, 0, none⟩) 2 2, .bool false] (w.alloc (.cells #[.int .u32 1, .int .u32 2] 22)) fun e w' => ∃ u, e = .returned (.tuple #[u, .int .i64 0]) ∧ Rd w' u [3, 998244352] ∧ Fwd w w' := by
  have h := Transform_any false (lit0 w)
  rw [k_two] at h
  refine h.mono ?_
  rintro e w' ⟨u, rfl, h1, h2⟩
  exact ⟨u, rfl, h1, ((Fwd.refl w).alloc _).trans h2⟩
theorem ca2 (w : World) : Calls Try.prog 14 #[.slice (some ⟨w.heap.size, 0, none⟩) 4 4, .bool false] (w.alloc (.cells #[.int .u32 0, .int .u32 1, .int .u32 0, .int .u32 0] 22)) fun e w' => ∃ u, e = .returned (.tuple #[u, .int .i64 0]) ∧ Rd w' u [1, 911660635, 998244352, 86583718] ∧ Fwd w w' := by
  have h := Transform_any false (lit1 w)
  rw [k_four] at h
  refine h.mono ?_
  rintro e w' ⟨u, rfl, h1, h2⟩
  exact ⟨u, rfl, h1, ((Fwd.refl w).alloc _).trans h2⟩
theorem ca4 (w : World) : Calls Try.prog 14 #[.slice (some ⟨w.heap.size, 0, none⟩) 4 4, .bool true] (w.alloc (.cells #[.int .u32 5, .int .u32 5, .int .u32 5, .int .u32 5] 22)) fun e w' => ∃ u, e = .returned (.tuple #[u, .int .i64 0]) ∧ Rd w' u [5, 0, 0, 0] ∧ Fwd w w' := by
  have h := Transform_any true (lit3 w)
  rw [k_back] at h
  refine h.mono ?_
  rintro e w' ⟨u, rfl, h1, h2⟩
  exact ⟨u, rfl, h1, ((Fwd.refl w).alloc _).trans h2⟩
theorem ca5 (w : World) : Calls Try.prog 14 #[.slice (some ⟨w.heap.size, 0, none⟩) 3 3, .bool false] (w.alloc (.cells #[.int .u32 1, .int .u32 2, .int .u32 3] 22)) fun e w' => ∃ u, e = .returned (.tuple #[u, .int .i64 3]) ∧ Rd w' u [] ∧ Fwd w w' := by
  have h := Transform_any false (lit2 w)
  rw [k_three] at h
  refine h.mono ?_
  rintro e w' ⟨u, rfl, h1, h2⟩
  exact ⟨u, rfl, h1, ((Fwd.refl w).alloc _).trans h2⟩
theorem ca6 (w : World) : Calls Try.prog 14 #[.slice (some ⟨w.heap.size, 0, none⟩) 2 2, .bool true] (w.alloc (.cells #[.int .u32 1, .int .u32 998244353] 22)) fun e w' => ∃ u, e = .returned (.tuple #[u, .int .i64 1]) ∧ Rd w' u [] ∧ Fwd w w' := by
  have h := Transform_any true (lit4 w)
  rw [k_odd] at h
  refine h.mono ?_
  rintro e w' ⟨u, rfl, h1, h2⟩
  exact ⟨u, rfl, h1, ((Fwd.refl w).alloc _).trans h2⟩
theorem ca3 (w : World) : Calls Try.prog 17 #[.slice (some ⟨w.heap.size, 0, none⟩) 3 3, .slice (some ⟨w.heap.size + 1, 0, none⟩) 2 2] ((w.alloc (.cells #[.int .u32 1, .int .u32 2, .int .u32 3] 22)).alloc (.cells #[.int .u32 4, .int .u32 5] 22)) fun e w' => ∃ u, e = .returned (.tuple #[u, .int .i64 0]) ∧ Rd w' u [4, 13, 22, 15] ∧ Fwd w w' := by
  have h1 := (lit2 w).fwd ((Fwd.refl _).alloc (.cells #[.int .u32 4, .int .u32 5] 22))
  have h2 := litx (w.alloc (.cells #[.int .u32 1, .int .u32 2, .int .u32 3] 22))
  have e : (w.alloc (.cells #[.int .u32 1, .int .u32 2, .int .u32 3] 22)).heap.size = w.heap.size + 1 := by simp
  rw [e] at h2
  have h := Conv_any h1 h2 (by decide) (by decide)
  rw [k_conv] at h
  refine h.mono ?_
  rintro e w' ⟨u, rfl, h1, h2⟩
  exact ⟨u, rfl, h1, (((Fwd.refl w).alloc _).alloc _).trans h2⟩
theorem ca7 (w : World) : Calls Try.prog 17 #[.slice none 0 0, .slice (some ⟨w.heap.size, 0, none⟩) 1 1] (w.alloc (.cells #[.int .u32 1] 22)) fun e w' => ∃ u, e = .returned (.tuple #[u, .int .i64 3]) ∧ Rd w' u [] ∧ Fwd w w' := by
  have h := Conv_any (Rd.nil (w.alloc (.cells #[.int .u32 1] 22))) (lit5 w) (by decide) (by decide)
  rw [cvA_nil_left] at h
  refine h.mono ?_
  rintro e w' ⟨u, rfl, h1, h2⟩
  exact ⟨u, rfl, h1, ((Fwd.refl w).alloc _).trans h2⟩
theorem wp_cut3 {P : Program} {c : Code} {Q : Exit → Act → World → Prop} {a : Act} {w : World} (F : Value → Value → Value → Act) (M : Value → Value → Value → World → Prop)
    (h : c.wp P (fun e a' w' => match e with | .normal => ∃ u v z, a' = F u v z ∧ M u v z w' | _ => False) a w) (hq : ∀ u v z w', M u v z w' → Q .normal (F u v z) w') : c.wp P Q a w :=
  wp_mono h fun e a' w' hh => by
    cases e with
    | normal => obtain ⟨u, v, z, h2, h3⟩ := hh; rw [h2]; exact hq u v z w' h3
    | _ => exact hh.elim
theorem mk_run (n : Nat) (hn : n ≤ 1000000) (w : World) : (Instr.makeSlice 27 (.int .i64 (n : Int)) (.int .i64 (n : Int))).run Try.prog w = .ok (.slice (some ⟨w.heap.size, 0, none⟩) n n) (w.alloc (.cells (madeCells #[.int .u32 0] n) 22)) := by
  obtain ⟨i, hi, hz0, hz1, hz2⟩ := info_parts info_u32
  exact run_make_row 27 22 i (.int .u32 0) Try.underlying27 hi hz0 hz1 rfl .i64 .i64 n (by rw [hz2]; omega) (by omega) w
theorem two_rows {w : World} {Z1 Z2 : Obj} {m n : Nat} (h1 : ∀ w : World, Blk (w.alloc Z1) w.heap.size (List.replicate m 0)) (h2 : ∀ w : World, Blk (w.alloc Z2) w.heap.size (List.replicate n 0)) (hm : m ≤ 100000) (hn : n ≤ 100000) :
    Rd ((w.alloc Z1).alloc Z2) (.slice (some ⟨w.heap.size, 0, none⟩) m m) (List.replicate m 0) ∧ Rd ((w.alloc Z1).alloc Z2) (.slice (some ⟨w.heap.size + 1, 0, none⟩) n n) (List.replicate n 0) := by
  have e : (w.alloc Z1).heap.size = w.heap.size + 1 := by simp
  have a := ((h1 w).fwd ((Fwd.refl _).alloc Z2)).rdAll m (by simp) (by unfold maxLen; omega)
  have b := (h2 (w.alloc Z1)).rdAll n (by simp) (by unfold maxLen; omega)
  rw [List.length_replicate] at a b
  rw [e] at b
  exact ⟨a, b⟩
theorem two_conv {w : World} {Z1 Z2 : Obj} {m n : Nat} (h1 : ∀ w : World, Blk (w.alloc Z1) w.heap.size (List.replicate m 0)) (h2 : ∀ w : World, Blk (w.alloc Z2) w.heap.size (List.replicate n 0)) (hm : m ≤ 100000) (hn : n ≤ 100000) {L : List Nat} {c : Nat} (he : cvA (List.replicate m 0) (List.replicate n 0) = (L, c)) :
    (Calls Try.prog 17 #[.slice (some ⟨w.heap.size, 0, none⟩) m m, .slice (some ⟨w.heap.size + 1, 0, none⟩) n n] ((w.drew.alloc Z1).alloc Z2) fun e w' => ∃ u, e = .returned (.tuple #[u, .int .i64 (c : Int)]) ∧ Rd w' u L ∧ Fwd w w') ∧
    (Calls Try.prog 17 #[.slice (some ⟨w.heap.size + 1, 0, none⟩) m m, .slice (some ⟨w.heap.size, 0, none⟩) n n] ((w.drew.alloc Z2).alloc Z1) fun e w' => ∃ u, e = .returned (.tuple #[u, .int .i64 (c : Int)]) ∧ Rd w' u L ∧ Fwd w w') := by
  obtain ⟨a, b⟩ := two_rows (w := w.drew) h1 h2 hm hn
  obtain ⟨b', a'⟩ := two_rows (w := w.drew) h2 h1 hn hm
  have hl1 : (List.replicate m 0).length ≤ 1000000000 := by rw [List.length_replicate]; omega
  have hl2 : (List.replicate n 0).length ≤ 1000000000 := by rw [List.length_replicate]; omega
  have k1 := Conv_any a b hl1 hl2
  have k2 := Conv_any a' b' hl1 hl2
  rw [he] at k1 k2
  constructor
  · refine Calls.mono k1 ?_
    rintro e w' ⟨u, rfl, h1, h2⟩
    exact ⟨u, rfl, h1, (((Fwd.refl w).drew.alloc _).alloc _).trans h2⟩
  · refine Calls.mono k2 ?_
    rintro e w' ⟨u, rfl, h1, h2⟩
    exact ⟨u, rfl, h1, (((Fwd.refl w).drew.alloc _).alloc _).trans h2⟩
theorem rep_make (n : Nat) (hn : n ≤ 100000) (N : Int) (hN : N = (n : Int)) : ∃ Z : Obj, (∀ w : World, Blk (w.alloc Z) w.heap.size (List.replicate n 0)) ∧ (∀ w : World, (Instr.makeSlice 27 (.int .i64 N) (.int .i64 N)).run Try.prog w = .ok (.slice (some ⟨w.heap.size, 0, none⟩) n n) (w.alloc Z)) := by
  subst hN
  exact ⟨_, fun w => Blk.made w n, fun w => mk_run n (by omega) w⟩
theorem wp_open {P : Program} {c : Code} {Q : Exit → Act → World → Prop} {a : Act} {w : World} (h : ∀ a0, a0 = a → c.wp P Q a0 w) : c.wp P Q a w := h a rfl

set_option maxHeartbeats 16000000 in
set_option maxRecDepth 20000 in
theorem nttKnown_walk {w : World} {which : Int} (hm : (Lit.int .i64 which).wf = true) :
    Calls Try.prog 8 #[.int .i64 which] w fun e w' => e = .returned (.bool true) ∧ Below w.heap.size w w' := by
  obtain ⟨k1, k2⟩ := bounds_i64 hm
  have hk7 : (which % ((7 : Nat) : Int)).toNat < 7 := by omega
  have cK : Hid (∀ w', Calls Try.prog 13 #[.int .i64 which, .int .i64 7] w' fun e w'' => e = .returned (.int .i64 ((which % ((7 : Nat) : Int)).toNat : Nat)) ∧ w'' = w') := hid fun w' => within8 w' which 7 (by omega) (by omega) k1 k2
  obtain ⟨kk, hkk⟩ : ∃ kk, kk = (which % ((7 : Nat) : Int)).toNat := ⟨_, rfl⟩
  rw [← hkk] at hk7 cK
  clear hkk hm
  go_enter Try.func8, Try.ntmps8
  go_wp2_with fail
  refine (known8_any _).mono ?_
  rintro e w1 ⟨rfl, hf⟩
  have HF := hid hf
  clear hf
  go_wp2_with fail
  refine (ca1 _).mono ?_
  rintro e w2 ⟨u1, rfl, hn, hf⟩
  replace HF := hid (HF.out.trans hf)
  have H1 := hid hn
  clear hn
  clear hf
  go_wp2_with fail
  refine (ca2 _).mono ?_
  rintro e w3 ⟨u2, rfl, hn, hf⟩
  replace H1 := hid (H1.out.fwd hf)
  replace HF := hid (HF.out.trans hf)
  have H2 := hid hn
  clear hn
  clear hf
  go_wp2_with fail
  refine (ca3 _).mono ?_
  rintro e w4 ⟨u3, rfl, hn, hf⟩
  replace H1 := hid (H1.out.fwd hf)
  replace H2 := hid (H2.out.fwd hf)
  replace HF := hid (HF.out.trans hf)
  have H3 := hid hn
  clear hn
  clear hf
  go_wp2_with fail
  refine (ca4 _).mono ?_
  rintro e w5 ⟨u4, rfl, hn, hf⟩
  replace H1 := hid (H1.out.fwd hf)
  replace H2 := hid (H2.out.fwd hf)
  replace H3 := hid (H3.out.fwd hf)
  replace HF := hid (HF.out.trans hf)
  have H4 := hid hn
  clear hn
  clear hf
  go_wp2_with fail
  refine (ca5 _).mono ?_
  rintro e w6 ⟨u5, rfl, hn5, hf⟩
  replace H1 := hid (H1.out.fwd hf)
  replace H2 := hid (H2.out.fwd hf)
  replace H3 := hid (H3.out.fwd hf)
  replace H4 := hid (H4.out.fwd hf)
  replace HF := hid (HF.out.trans hf)
  clear hf
  clear hn5
  go_wp2_with fail
  refine (ca6 _).mono ?_
  rintro e w7 ⟨u6, rfl, hn6, hf⟩
  replace H1 := hid (H1.out.fwd hf)
  replace H2 := hid (H2.out.fwd hf)
  replace H3 := hid (H3.out.fwd hf)
  replace H4 := hid (H4.out.fwd hf)
  replace HF := hid (HF.out.trans hf)
  clear hf
  clear hn6
  go_wp2_with fail
  refine (Transform_none none 0 false).mono ?_
  rintro e w8 ⟨rfl, hf⟩
  replace H1 := hid (H1.out.fwd hf)
  replace H2 := hid (H2.out.fwd hf)
  replace H3 := hid (H3.out.fwd hf)
  replace H4 := hid (H4.out.fwd hf)
  replace HF := hid (HF.out.trans hf)
  clear hf
  go_wp2_with fail
  refine (ca7 _).mono ?_
  rintro e w9 ⟨u8, rfl, hn8, hf⟩
  replace H1 := hid (H1.out.fwd hf)
  replace H2 := hid (H2.out.fwd hf)
  replace H3 := hid (H3.out.fwd hf)
  replace H4 := hid (H4.out.fwd hf)
  replace HF := hid (HF.out.trans hf)
  clear hf
  clear hn8
  go_wp2_with fail
  obtain ⟨Z1, hz1, hm1⟩ := rep_make 1000 (by decide) 1000 rfl
  obtain ⟨Z2, hz2, hm2⟩ := rep_make 26 (by decide) 26 rfl
  obtain ⟨c1, c2⟩ := two_conv (w := w9) hz1 hz2 (by decide) (by decide) k_long
  replace c1 := hid c1
  replace c2 := hid c2
  clear hz1 hz2
  refine wp_cut3 ?FA (fun u v z w' => Rd w' z [] ∧ Fwd w9 w') ?regA ?restA
  case regA =>
    go_region_with (first
      | (go_at_call_of 17 (Value.slice (some ⟨w9.heap.size, 0, none⟩) 1000 1000); refine c1.out.mono ?_; rintro e wq ⟨z, rfl, hz, hfq⟩)
      | (go_at_call_of 17 (Value.slice (some ⟨w9.heap.size, 0, none⟩) 26 26); refine c2.out.mono ?_; rintro e wq ⟨z, rfl, hz, hfq⟩))
    · dsimp only
      simp only [Act.put, List.getElem_toArray, List.getElem_cons_succ, List.getElem_cons_zero, List.setIfInBounds_toArray, List.set_cons_zero, List.set_cons_succ]
      generalize Value.slice (some ⟨w9.heap.size, 0, none⟩) 1000 1000 = u
      generalize Value.slice (some ⟨w9.heap.size + 1, 0, none⟩) 26 26 = v
      refine ⟨u, v, z, ?_, hz, hfq⟩
      rfl
    · dsimp only
      simp only [Act.put, List.getElem_toArray, List.getElem_cons_succ, List.getElem_cons_zero, List.setIfInBounds_toArray, List.set_cons_zero, List.set_cons_succ]
      generalize Value.slice (some ⟨w9.heap.size + 1, 0, none⟩) 1000 1000 = u
      generalize Value.slice (some ⟨w9.heap.size, 0, none⟩) 26 26 = v
      refine ⟨u, v, z, ?_, hz, hfq⟩
      rfl
  rintro uA vA u10 w10 ⟨hn, hf⟩
  replace H1 := hid (H1.out.fwd hf)
  replace H2 := hid (H2.out.fwd hf)
  replace H3 := hid (H3.out.fwd hf)
  replace H4 := hid (H4.out.fwd hf)
  replace HF := hid (HF.out.trans hf)
  clear hn hf c1 c2 hm1 hm2 Z1 Z2
  go_wp2_with fail
  obtain ⟨L, hL, lL⟩ := k_fits
  have LL := hid lL
  clear lL
  obtain ⟨Z1, hz1, hm1⟩ := rep_make 1000 (by decide) 1000 rfl
  obtain ⟨Z2, hz2, hm2⟩ := rep_make 25 (by decide) 25 rfl
  obtain ⟨c1, c2⟩ := two_conv (w := w10) hz1 hz2 (by decide) (by decide) hL
  replace c1 := hid c1
  replace c2 := hid c2
  clear hz1 hz2
  refine wp_cut3 ?FB (fun u v z w' => Rd w' z L ∧ Fwd w10 w') ?regB ?restB
  case regB =>
    go_region_with (first
      | (go_at_call_of 17 (Value.slice (some ⟨w10.heap.size, 0, none⟩) 1000 1000); refine c1.out.mono ?_; rintro e wq ⟨z, rfl, hz, hfq⟩)
      | (go_at_call_of 17 (Value.slice (some ⟨w10.heap.size, 0, none⟩) 25 25); refine c2.out.mono ?_; rintro e wq ⟨z, rfl, hz, hfq⟩))
    · dsimp only
      simp only [Act.put, List.getElem_toArray, List.getElem_cons_succ, List.getElem_cons_zero, List.setIfInBounds_toArray, List.set_cons_zero, List.set_cons_succ]
      generalize Value.slice (some ⟨w10.heap.size, 0, none⟩) 1000 1000 = u
      generalize Value.slice (some ⟨w10.heap.size + 1, 0, none⟩) 25 25 = v
      refine ⟨u, v, z, ?_, hz, hfq⟩
      rfl
    · dsimp only
      simp only [Act.put, List.getElem_toArray, List.getElem_cons_succ, List.getElem_cons_zero, List.setIfInBounds_toArray, List.set_cons_zero, List.set_cons_succ]
      generalize Value.slice (some ⟨w10.heap.size + 1, 0, none⟩) 1000 1000 = u
      generalize Value.slice (some ⟨w10.heap.size, 0, none⟩) 25 25 = v
      refine ⟨u, v, z, ?_, hz, hfq⟩
      rfl
  rintro uB vB u11 w11 ⟨hn, hf⟩
  replace H1 := hid (H1.out.fwd hf)
  replace H2 := hid (H2.out.fwd hf)
  replace H3 := hid (H3.out.fwd hf)
  replace H4 := hid (H4.out.fwd hf)
  replace HF := hid (HF.out.trans hf)
  have H5 := hid hn
  clear hn hf c1 c2 hm1 hm2 Z1 Z2
  clear hL
  go_wp2_with fail
  obtain ⟨ao, cap, rfl, _, _, _, hc2⟩ := H2.out.parts
  obtain ⟨b, off, rfl, q0⟩ := hc2 0 (by decide)
  obtain ⟨_, _, ee, q1⟩ := hc2 1 (by decide)
  cases ee
  obtain ⟨_, _, ee, q2⟩ := hc2 2 (by decide)
  cases ee
  obtain ⟨_, _, ee, q3⟩ := hc2 3 (by decide)
  cases ee
  have q0 : w11.cell? ⟨b, off, none⟩ = some (.int .u32 1) := q0
  have q1 : w11.cell? ⟨b, off + 1, none⟩ = some (.int .u32 911660635) := q1
  have q2 : w11.cell? ⟨b, off + 2, none⟩ = some (.int .u32 998244352) := q2
  have q3 : w11.cell? ⟨b, off + 3, none⟩ = some (.int .u32 86583718) := q3
  obtain ⟨zo, zc, rfl, _, _, _⟩ := H5.out.parts
  rw [LL.out]
  clear hc2 H2 H5
  refine wp_open fun a0 ha0 => ?_
  have e3 : a0.eval (.tmp 3) = u1 := by rw [ha0]; rfl
  have e4 : a0.eval (.tmp 4) = .int .i64 0 := by rw [ha0]; rfl
  have e5 : a0.eval (.tmp 5) = .slice (some ⟨b, off, none⟩) 4 cap := by rw [ha0]; rfl
  have e6 : a0.eval (.tmp 6) = .int .i64 0 := by rw [ha0]; rfl
  have e7 : a0.eval (.tmp 7) = u3 := by rw [ha0]; rfl
  have e8 : a0.eval (.tmp 8) = .int .i64 0 := by rw [ha0]; rfl
  have e9 : a0.eval (.tmp 9) = u4 := by rw [ha0]; rfl
  have e10 : a0.eval (.tmp 10) = .int .i64 0 := by rw [ha0]; rfl
  have e12 : a0.eval (.tmp 12) = .int .i64 3 := by rw [ha0]; rfl
  have e14 : a0.eval (.tmp 14) = .int .i64 1 := by rw [ha0]; rfl
  have e16 : a0.eval (.tmp 16) = .int .i64 3 := by rw [ha0]; rfl
  have e18 : a0.eval (.tmp 18) = .int .i64 3 := by rw [ha0]; rfl
  have e20 : a0.eval (.tmp 20) = .int .i64 3 := by rw [ha0]; rfl
  have e21 : a0.eval (.tmp 21) = .slice zo 1024 zc := by rw [ha0]; rfl
  have e22 : a0.eval (.tmp 22) = .int .i64 0 := by rw [ha0]; rfl
  have e0 : a0.eval (.tmp 0) = .int .i64 which := by rw [ha0]; rfl
  have n0 : a0.tmps.size = 191 := by rw [ha0]; rfl
  have d0 : a0.defers = [] := by rw [ha0]
  clear ha0
  refine wp_region_says Try.checked.mixed [80, 87, 92, 98, 104, 117, 132, 139, 146, 150, 154, 158, 164, 171, 175, 179] 191 (fun t => (spK a0 (tabK u1 u3 u4 b off cap zc zo) t).says) (by kernel_rfl) ?ht (fun t v w w' hF h => Sq.keep hF h) n0 d0 (says0 rfl (by kernel_rfl)) (dst_lt (by kernel_rfl)) ?hops ?hend
  case ht =>
    intro t ht v w h
    simp only [List.mem_cons, List.not_mem_nil, or_false] at ht
    rcases ht with rfl | rfl | rfl | rfl | rfl | rfl | rfl | rfl | rfl | rfl | rfl | rfl | rfl | rfl | rfl | rfl <;> exact h
  case hops =>
    refine fc rfl (sayV 78 rfl (.int .i64 0) (fun _ => rfl) fun ρ w hc hf hF hr => ?_) ?_
    · have h4 := (show ρ (.tmp 4) = a0.eval (.tmp 4) from hr 4 (by simp [Op.operands, Call.operands])).trans e4
      simp [execOp, resolve, invoke, builtin, go_sem, hc, hf, h4]
    refine fc rfl (sayV 79 rfl (.bool true) (fun _ => rfl) fun ρ w hc hf hF hr => ?_) ?_
    · have h78 : ρ (.tmp 78) = .int .i64 0 := hr 78 (by simp [Op.operands, Call.operands])
      simp [execOp, resolve, invoke, builtin, go_sem, hc, hf, h78]
    refine fc rfl (sayV 80 rfl (.bool true) (fun _ => rfl) fun ρ w hc hf hF hr => ?_) ?_
    · have h79 : ρ (.tmp 79) = .bool true := hr 79 (by simp [Op.operands, Call.operands])
      simp [execOp, resolve, invoke, builtin, go_sem, hc, hf, h79]
    refine fc rfl (sayV 81 rfl (u1) (fun _ => rfl) fun ρ w hc hf hF hr => ?_) ?_
    · have h3 := (show ρ (.tmp 3) = a0.eval (.tmp 3) from hr 3 (by simp [Op.operands, Call.operands])).trans e3
      simp [execOp, resolve, invoke, builtin, go_sem, hc, hf, h3]
    refine fc rfl (sayN 82 rfl fun ρ w hc hf hF hr => ?_) ?_
    · refine ⟨.slice (some ⟨w.heap.size, 0, none⟩) 2 2, w.alloc (.cells #[.int .u32 3, .int .u32 998244352] 22), ?_, (Fwd.refl w).alloc _, ?_⟩
      · simp [execOp, resolve, invoke, builtin, go_sem, hc, hf]
      · exact (Blk.lit w [3, 998244352] (Ok.cons (by omega) (Ok.cons (by omega) Ok.nil)) #[.int .u32 3, .int .u32 998244352] rfl).rdAll 2 (by simp) (by unfold maxLen; omega)
    refine fc rfl (sayC 83 rfl fun ρ w hc hf hF hr => ?_) ?_
    · have h81 : ρ (.tmp 81) = u1 := hr 81 (by simp [Op.operands, Call.operands])
      have h82 : Rd w (ρ (.tmp 82)) [3, 998244352] := hr 82 (by simp [Op.operands, Call.operands])
      refine ⟨16, #[u1, ρ (.tmp 82)], ?_, ?_⟩
      · simp [execOp, resolve, invoke, builtin, go_sem, hc, hf, h81]
      · refine (same8q (H1.out.fwd hF) h82 (by decide) (by decide)).mono ?_
        rintro e w' ⟨rfl, m, rfl⟩
        exact ⟨_, rfl, (Fwd.refl w).drewN m, rfl⟩
    refine fc rfl (sayV 84 rfl (.bool true) (fun _ => rfl) fun ρ w hc hf hF hr => ?_) ?_
    · have h80 : ρ (.tmp 80) = .bool true := hr 80 (by simp [Op.operands, Call.operands])
      have h83 : ρ (.tmp 83) = .bool true := hr 83 (by simp [Op.operands, Call.operands])
      simp [execOp, resolve, invoke, builtin, go_sem, hc, hf, h80, h83]
    refine fc rfl (sayV 85 rfl (.int .i64 0) (fun _ => rfl) fun ρ w hc hf hF hr => ?_) ?_
    · have h6 := (show ρ (.tmp 6) = a0.eval (.tmp 6) from hr 6 (by simp [Op.operands, Call.operands])).trans e6
      simp [execOp, resolve, invoke, builtin, go_sem, hc, hf, h6]
    refine fc rfl (sayV 86 rfl (.bool true) (fun _ => rfl) fun ρ w hc hf hF hr => ?_) ?_
    · have h85 : ρ (.tmp 85) = .int .i64 0 := hr 85 (by simp [Op.operands, Call.operands])
      simp [execOp, resolve, invoke, builtin, go_sem, hc, hf, h85]
    refine fc rfl (sayV 87 rfl (.bool true) (fun _ => rfl) fun ρ w hc hf hF hr => ?_) ?_
    · have h86 : ρ (.tmp 86) = .bool true := hr 86 (by simp [Op.operands, Call.operands])
      simp [execOp, resolve, invoke, builtin, go_sem, hc, hf, h86]
    refine fc rfl (sayV 88 rfl (.slice (some ⟨b, off, none⟩) 4 cap) (fun _ => rfl) fun ρ w hc hf hF hr => ?_) ?_
    · have h5 := (show ρ (.tmp 5) = a0.eval (.tmp 5) from hr 5 (by simp [Op.operands, Call.operands])).trans e5
      simp [execOp, resolve, invoke, builtin, go_sem, hc, hf, h5]
    refine fc rfl (sayV 89 rfl (.int .i64 4) (fun _ => rfl) fun ρ w hc hf hF hr => ?_) ?_
    · have h88 : ρ (.tmp 88) = .slice (some ⟨b, off, none⟩) 4 cap := hr 88 (by simp [Op.operands, Call.operands])
      simp [execOp, resolve, invoke, builtin, go_sem, hc, hf, h88]
    refine fc rfl (sayV 90 rfl (.bool true) (fun _ => rfl) fun ρ w hc hf hF hr => ?_) ?_
    · have h89 : ρ (.tmp 89) = .int .i64 4 := hr 89 (by simp [Op.operands, Call.operands])
      simp [execOp, resolve, invoke, builtin, go_sem, hc, hf, h89]
    refine fc rfl (sayV 91 rfl (.bool true) (fun _ => rfl) fun ρ w hc hf hF hr => ?_) ?_
    · have h87 : ρ (.tmp 87) = .bool true := hr 87 (by simp [Op.operands, Call.operands])
      have h90 : ρ (.tmp 90) = .bool true := hr 90 (by simp [Op.operands, Call.operands])
      simp [execOp, resolve, invoke, builtin, go_sem, hc, hf, h87, h90]
    refine fc rfl (sayV 92 rfl (.bool true) (fun _ => rfl) fun ρ w hc hf hF hr => ?_) ?_
    · have h91 : ρ (.tmp 91) = .bool true := hr 91 (by simp [Op.operands, Call.operands])
      simp [execOp, resolve, invoke, builtin, go_sem, hc, hf, h91]
    refine fc rfl (sayV 93 rfl (.slice (some ⟨b, off, none⟩) 4 cap) (fun _ => rfl) fun ρ w hc hf hF hr => ?_) ?_
    · have h5 := (show ρ (.tmp 5) = a0.eval (.tmp 5) from hr 5 (by simp [Op.operands, Call.operands])).trans e5
      simp [execOp, resolve, invoke, builtin, go_sem, hc, hf, h5]
    refine fc rfl (sayV 94 rfl (.pointer (some ⟨b, off, none⟩)) (fun _ => rfl) fun ρ w hc hf hF hr => ?_) ?_
    · have h93 : ρ (.tmp 93) = .slice (some ⟨b, off, none⟩) 4 cap := hr 93 (by simp [Op.operands, Call.operands])
      simp [execOp, resolve, invoke, builtin, go_sem, hc, hf, h93]
    refine fc rfl (sayV 95 rfl (.int .u32 1) (fun _ => rfl) fun ρ w hc hf hF hr => ?_) ?_
    · have h94 : ρ (.tmp 94) = .pointer (some ⟨b, off, none⟩) := hr 94 (by simp [Op.operands, Call.operands])
      have hq := hF.cell q0
      simp [execOp, resolve, invoke, builtin, go_sem, hc, hf, h94, hq]
    refine fc rfl (sayV 96 rfl (.bool true) (fun _ => rfl) fun ρ w hc hf hF hr => ?_) ?_
    · have h95 : ρ (.tmp 95) = .int .u32 1 := hr 95 (by simp [Op.operands, Call.operands])
      simp [execOp, resolve, invoke, builtin, go_sem, hc, hf, h95]
    refine fc rfl (sayV 97 rfl (.bool true) (fun _ => rfl) fun ρ w hc hf hF hr => ?_) ?_
    · have h92 : ρ (.tmp 92) = .bool true := hr 92 (by simp [Op.operands, Call.operands])
      have h96 : ρ (.tmp 96) = .bool true := hr 96 (by simp [Op.operands, Call.operands])
      simp [execOp, resolve, invoke, builtin, go_sem, hc, hf, h92, h96]
    refine fc rfl (sayV 98 rfl (.bool true) (fun _ => rfl) fun ρ w hc hf hF hr => ?_) ?_
    · have h97 : ρ (.tmp 97) = .bool true := hr 97 (by simp [Op.operands, Call.operands])
      simp [execOp, resolve, invoke, builtin, go_sem, hc, hf, h97]
    refine fc rfl (sayV 99 rfl (.slice (some ⟨b, off, none⟩) 4 cap) (fun _ => rfl) fun ρ w hc hf hF hr => ?_) ?_
    · have h5 := (show ρ (.tmp 5) = a0.eval (.tmp 5) from hr 5 (by simp [Op.operands, Call.operands])).trans e5
      simp [execOp, resolve, invoke, builtin, go_sem, hc, hf, h5]
    refine fc rfl (sayV 100 rfl (.pointer (some ⟨b, off + 2, none⟩)) (fun _ => rfl) fun ρ w hc hf hF hr => ?_) ?_
    · have h99 : ρ (.tmp 99) = .slice (some ⟨b, off, none⟩) 4 cap := hr 99 (by simp [Op.operands, Call.operands])
      simp [execOp, resolve, invoke, builtin, go_sem, hc, hf, h99]
    refine fc rfl (sayV 101 rfl (.int .u32 998244352) (fun _ => rfl) fun ρ w hc hf hF hr => ?_) ?_
    · have h100 : ρ (.tmp 100) = .pointer (some ⟨b, off + 2, none⟩) := hr 100 (by simp [Op.operands, Call.operands])
      have hq := hF.cell q2
      simp [execOp, resolve, invoke, builtin, go_sem, hc, hf, h100, hq]
    refine fc rfl (sayV 102 rfl (.bool true) (fun _ => rfl) fun ρ w hc hf hF hr => ?_) ?_
    · have h101 : ρ (.tmp 101) = .int .u32 998244352 := hr 101 (by simp [Op.operands, Call.operands])
      simp [execOp, resolve, invoke, builtin, go_sem, hc, hf, h101]
    refine fc rfl (sayV 103 rfl (.bool true) (fun _ => rfl) fun ρ w hc hf hF hr => ?_) ?_
    · have h98 : ρ (.tmp 98) = .bool true := hr 98 (by simp [Op.operands, Call.operands])
      have h102 : ρ (.tmp 102) = .bool true := hr 102 (by simp [Op.operands, Call.operands])
      simp [execOp, resolve, invoke, builtin, go_sem, hc, hf, h98, h102]
    refine fc rfl (sayV 104 rfl (.bool true) (fun _ => rfl) fun ρ w hc hf hF hr => ?_) ?_
    · have h103 : ρ (.tmp 103) = .bool true := hr 103 (by simp [Op.operands, Call.operands])
      simp [execOp, resolve, invoke, builtin, go_sem, hc, hf, h103]
    refine fc rfl (sayV 105 rfl (.slice (some ⟨b, off, none⟩) 4 cap) (fun _ => rfl) fun ρ w hc hf hF hr => ?_) ?_
    · have h5 := (show ρ (.tmp 5) = a0.eval (.tmp 5) from hr 5 (by simp [Op.operands, Call.operands])).trans e5
      simp [execOp, resolve, invoke, builtin, go_sem, hc, hf, h5]
    refine fc rfl (sayV 106 rfl (.pointer (some ⟨b, off + 1, none⟩)) (fun _ => rfl) fun ρ w hc hf hF hr => ?_) ?_
    · have h105 : ρ (.tmp 105) = .slice (some ⟨b, off, none⟩) 4 cap := hr 105 (by simp [Op.operands, Call.operands])
      simp [execOp, resolve, invoke, builtin, go_sem, hc, hf, h105]
    refine fc rfl (sayV 107 rfl (.int .u32 911660635) (fun _ => rfl) fun ρ w hc hf hF hr => ?_) ?_
    · have h106 : ρ (.tmp 106) = .pointer (some ⟨b, off + 1, none⟩) := hr 106 (by simp [Op.operands, Call.operands])
      have hq := hF.cell q1
      simp [execOp, resolve, invoke, builtin, go_sem, hc, hf, h106, hq]
    refine fc rfl (sayV 108 rfl (.int .u64 911660635) (fun _ => rfl) fun ρ w hc hf hF hr => ?_) ?_
    · have h107 : ρ (.tmp 107) = .int .u32 911660635 := hr 107 (by simp [Op.operands, Call.operands])
      have hwr : IntKind.u64.wrap 911660635 = 911660635 := by rw [IntKind.wrap_u64]; omega
      simp [execOp, resolve, invoke, builtin, go_sem, hc, hf, h107, hwr]
    refine fc rfl (sayV 109 rfl (.slice (some ⟨b, off, none⟩) 4 cap) (fun _ => rfl) fun ρ w hc hf hF hr => ?_) ?_
    · have h5 := (show ρ (.tmp 5) = a0.eval (.tmp 5) from hr 5 (by simp [Op.operands, Call.operands])).trans e5
      simp [execOp, resolve, invoke, builtin, go_sem, hc, hf, h5]
    refine fc rfl (sayV 110 rfl (.pointer (some ⟨b, off + 1, none⟩)) (fun _ => rfl) fun ρ w hc hf hF hr => ?_) ?_
    · have h109 : ρ (.tmp 109) = .slice (some ⟨b, off, none⟩) 4 cap := hr 109 (by simp [Op.operands, Call.operands])
      simp [execOp, resolve, invoke, builtin, go_sem, hc, hf, h109]
    refine fc rfl (sayV 111 rfl (.int .u32 911660635) (fun _ => rfl) fun ρ w hc hf hF hr => ?_) ?_
    · have h110 : ρ (.tmp 110) = .pointer (some ⟨b, off + 1, none⟩) := hr 110 (by simp [Op.operands, Call.operands])
      have hq := hF.cell q1
      simp [execOp, resolve, invoke, builtin, go_sem, hc, hf, h110, hq]
    refine fc rfl (sayV 112 rfl (.int .u64 911660635) (fun _ => rfl) fun ρ w hc hf hF hr => ?_) ?_
    · have h111 : ρ (.tmp 111) = .int .u32 911660635 := hr 111 (by simp [Op.operands, Call.operands])
      have hwr : IntKind.u64.wrap 911660635 = 911660635 := by rw [IntKind.wrap_u64]; omega
      simp [execOp, resolve, invoke, builtin, go_sem, hc, hf, h111, hwr]
    refine fc rfl (sayV 113 rfl (.int .u64 831125113408603225) (fun _ => rfl) fun ρ w hc hf hF hr => ?_) ?_
    · have h108 : ρ (.tmp 108) = .int .u64 911660635 := hr 108 (by simp [Op.operands, Call.operands])
      have h112 : ρ (.tmp 112) = .int .u64 911660635 := hr 112 (by simp [Op.operands, Call.operands])
      have hwr : IntKind.u64.wrap 831125113408603225 = 831125113408603225 := by rw [IntKind.wrap_u64]; omega
      simp [execOp, resolve, invoke, builtin, go_sem, hc, hf, h108, h112, hwr]
    refine fc rfl (sayV 114 rfl (.int .u64 998244352) (fun _ => rfl) fun ρ w hc hf hF hr => ?_) ?_
    · have h113 : ρ (.tmp 113) = .int .u64 831125113408603225 := hr 113 (by simp [Op.operands, Call.operands])
      have hwr : IntKind.u64.wrap 998244352 = 998244352 := by rw [IntKind.wrap_u64]; omega
      simp [execOp, resolve, invoke, builtin, go_sem, hc, hf, h113, hwr]
    refine fc rfl (sayV 115 rfl (.bool true) (fun _ => rfl) fun ρ w hc hf hF hr => ?_) ?_
    · have h114 : ρ (.tmp 114) = .int .u64 998244352 := hr 114 (by simp [Op.operands, Call.operands])
      simp [execOp, resolve, invoke, builtin, go_sem, hc, hf, h114]
    refine fc rfl (sayV 116 rfl (.bool true) (fun _ => rfl) fun ρ w hc hf hF hr => ?_) ?_
    · have h104 : ρ (.tmp 104) = .bool true := hr 104 (by simp [Op.operands, Call.operands])
      have h115 : ρ (.tmp 115) = .bool true := hr 115 (by simp [Op.operands, Call.operands])
      simp [execOp, resolve, invoke, builtin, go_sem, hc, hf, h104, h115]
    refine fc rfl (sayV 117 rfl (.bool true) (fun _ => rfl) fun ρ w hc hf hF hr => ?_) ?_
    · have h116 : ρ (.tmp 116) = .bool true := hr 116 (by simp [Op.operands, Call.operands])
      simp [execOp, resolve, invoke, builtin, go_sem, hc, hf, h116]
    refine fc rfl (sayV 118 rfl (.slice (some ⟨b, off, none⟩) 4 cap) (fun _ => rfl) fun ρ w hc hf hF hr => ?_) ?_
    · have h5 := (show ρ (.tmp 5) = a0.eval (.tmp 5) from hr 5 (by simp [Op.operands, Call.operands])).trans e5
      simp [execOp, resolve, invoke, builtin, go_sem, hc, hf, h5]
    refine fc rfl (sayV 119 rfl (.pointer (some ⟨b, off + 1, none⟩)) (fun _ => rfl) fun ρ w hc hf hF hr => ?_) ?_
    · have h118 : ρ (.tmp 118) = .slice (some ⟨b, off, none⟩) 4 cap := hr 118 (by simp [Op.operands, Call.operands])
      simp [execOp, resolve, invoke, builtin, go_sem, hc, hf, h118]
    refine fc rfl (sayV 120 rfl (.int .u32 911660635) (fun _ => rfl) fun ρ w hc hf hF hr => ?_) ?_
    · have h119 : ρ (.tmp 119) = .pointer (some ⟨b, off + 1, none⟩) := hr 119 (by simp [Op.operands, Call.operands])
      have hq := hF.cell q1
      simp [execOp, resolve, invoke, builtin, go_sem, hc, hf, h119, hq]
    refine fc rfl (sayV 121 rfl (.int .u64 911660635) (fun _ => rfl) fun ρ w hc hf hF hr => ?_) ?_
    · have h120 : ρ (.tmp 120) = .int .u32 911660635 := hr 120 (by simp [Op.operands, Call.operands])
      have hwr : IntKind.u64.wrap 911660635 = 911660635 := by rw [IntKind.wrap_u64]; omega
      simp [execOp, resolve, invoke, builtin, go_sem, hc, hf, h120, hwr]
    refine fc rfl (sayV 122 rfl (.slice (some ⟨b, off, none⟩) 4 cap) (fun _ => rfl) fun ρ w hc hf hF hr => ?_) ?_
    · have h5 := (show ρ (.tmp 5) = a0.eval (.tmp 5) from hr 5 (by simp [Op.operands, Call.operands])).trans e5
      simp [execOp, resolve, invoke, builtin, go_sem, hc, hf, h5]
    refine fc rfl (sayV 123 rfl (.pointer (some ⟨b, off + 3, none⟩)) (fun _ => rfl) fun ρ w hc hf hF hr => ?_) ?_
    · have h122 : ρ (.tmp 122) = .slice (some ⟨b, off, none⟩) 4 cap := hr 122 (by simp [Op.operands, Call.operands])
      simp [execOp, resolve, invoke, builtin, go_sem, hc, hf, h122]
    refine fc rfl (sayV 124 rfl (.int .u32 86583718) (fun _ => rfl) fun ρ w hc hf hF hr => ?_) ?_
    · have h123 : ρ (.tmp 123) = .pointer (some ⟨b, off + 3, none⟩) := hr 123 (by simp [Op.operands, Call.operands])
      have hq := hF.cell q3
      simp [execOp, resolve, invoke, builtin, go_sem, hc, hf, h123, hq]
    refine fc rfl (sayV 125 rfl (.int .u64 86583718) (fun _ => rfl) fun ρ w hc hf hF hr => ?_) ?_
    · have h124 : ρ (.tmp 124) = .int .u32 86583718 := hr 124 (by simp [Op.operands, Call.operands])
      have hwr : IntKind.u64.wrap 86583718 = 86583718 := by rw [IntKind.wrap_u64]; omega
      simp [execOp, resolve, invoke, builtin, go_sem, hc, hf, h124, hwr]
    refine fc rfl (sayV 126 rfl (.int .u64 78934967332540930) (fun _ => rfl) fun ρ w hc hf hF hr => ?_) ?_
    · have h121 : ρ (.tmp 121) = .int .u64 911660635 := hr 121 (by simp [Op.operands, Call.operands])
      have h125 : ρ (.tmp 125) = .int .u64 86583718 := hr 125 (by simp [Op.operands, Call.operands])
      have hwr : IntKind.u64.wrap 78934967332540930 = 78934967332540930 := by rw [IntKind.wrap_u64]; omega
      simp [execOp, resolve, invoke, builtin, go_sem, hc, hf, h121, h125, hwr]
    refine fc rfl (sayV 127 rfl (.int .u64 1) (fun _ => rfl) fun ρ w hc hf hF hr => ?_) ?_
    · have h126 : ρ (.tmp 126) = .int .u64 78934967332540930 := hr 126 (by simp [Op.operands, Call.operands])
      have hwr : IntKind.u64.wrap 1 = 1 := by rw [IntKind.wrap_u64]; omega
      simp [execOp, resolve, invoke, builtin, go_sem, hc, hf, h126, hwr]
    refine fc rfl (sayV 128 rfl (.bool true) (fun _ => rfl) fun ρ w hc hf hF hr => ?_) ?_
    · have h127 : ρ (.tmp 127) = .int .u64 1 := hr 127 (by simp [Op.operands, Call.operands])
      simp [execOp, resolve, invoke, builtin, go_sem, hc, hf, h127]
    refine fc rfl (sayV 129 rfl (.bool true) (fun _ => rfl) fun ρ w hc hf hF hr => ?_) ?_
    · have h117 : ρ (.tmp 117) = .bool true := hr 117 (by simp [Op.operands, Call.operands])
      have h128 : ρ (.tmp 128) = .bool true := hr 128 (by simp [Op.operands, Call.operands])
      simp [execOp, resolve, invoke, builtin, go_sem, hc, hf, h117, h128]
    refine fc rfl (sayV 130 rfl (.int .i64 0) (fun _ => rfl) fun ρ w hc hf hF hr => ?_) ?_
    · have h8 := (show ρ (.tmp 8) = a0.eval (.tmp 8) from hr 8 (by simp [Op.operands, Call.operands])).trans e8
      simp [execOp, resolve, invoke, builtin, go_sem, hc, hf, h8]
    refine fc rfl (sayV 131 rfl (.bool true) (fun _ => rfl) fun ρ w hc hf hF hr => ?_) ?_
    · have h130 : ρ (.tmp 130) = .int .i64 0 := hr 130 (by simp [Op.operands, Call.operands])
      simp [execOp, resolve, invoke, builtin, go_sem, hc, hf, h130]
    refine fc rfl (sayV 132 rfl (.bool true) (fun _ => rfl) fun ρ w hc hf hF hr => ?_) ?_
    · have h131 : ρ (.tmp 131) = .bool true := hr 131 (by simp [Op.operands, Call.operands])
      simp [execOp, resolve, invoke, builtin, go_sem, hc, hf, h131]
    refine fc rfl (sayV 133 rfl (u3) (fun _ => rfl) fun ρ w hc hf hF hr => ?_) ?_
    · have h7 := (show ρ (.tmp 7) = a0.eval (.tmp 7) from hr 7 (by simp [Op.operands, Call.operands])).trans e7
      simp [execOp, resolve, invoke, builtin, go_sem, hc, hf, h7]
    refine fc rfl (sayN 134 rfl fun ρ w hc hf hF hr => ?_) ?_
    · refine ⟨.slice (some ⟨w.heap.size, 0, none⟩) 4 4, w.alloc (.cells #[.int .u32 4, .int .u32 13, .int .u32 22, .int .u32 15] 22), ?_, (Fwd.refl w).alloc _, ?_⟩
      · simp [execOp, resolve, invoke, builtin, go_sem, hc, hf]
      · exact (Blk.lit w [4, 13, 22, 15] (Ok.cons (by omega) (Ok.cons (by omega) (Ok.cons (by omega) (Ok.cons (by omega) Ok.nil)))) #[.int .u32 4, .int .u32 13, .int .u32 22, .int .u32 15] rfl).rdAll 4 (by simp) (by unfold maxLen; omega)
    refine fc rfl (sayC 135 rfl fun ρ w hc hf hF hr => ?_) ?_
    · have h133 : ρ (.tmp 133) = u3 := hr 133 (by simp [Op.operands, Call.operands])
      have h134 : Rd w (ρ (.tmp 134)) [4, 13, 22, 15] := hr 134 (by simp [Op.operands, Call.operands])
      refine ⟨16, #[u3, ρ (.tmp 134)], ?_, ?_⟩
      · simp [execOp, resolve, invoke, builtin, go_sem, hc, hf, h133]
      · refine (same8q (H3.out.fwd hF) h134 (by decide) (by decide)).mono ?_
        rintro e w' ⟨rfl, m, rfl⟩
        exact ⟨_, rfl, (Fwd.refl w).drewN m, rfl⟩
    refine fc rfl (sayV 136 rfl (.bool true) (fun _ => rfl) fun ρ w hc hf hF hr => ?_) ?_
    · have h132 : ρ (.tmp 132) = .bool true := hr 132 (by simp [Op.operands, Call.operands])
      have h135 : ρ (.tmp 135) = .bool true := hr 135 (by simp [Op.operands, Call.operands])
      simp [execOp, resolve, invoke, builtin, go_sem, hc, hf, h132, h135]
    refine fc rfl (sayV 137 rfl (.int .i64 0) (fun _ => rfl) fun ρ w hc hf hF hr => ?_) ?_
    · have h10 := (show ρ (.tmp 10) = a0.eval (.tmp 10) from hr 10 (by simp [Op.operands, Call.operands])).trans e10
      simp [execOp, resolve, invoke, builtin, go_sem, hc, hf, h10]
    refine fc rfl (sayV 138 rfl (.bool true) (fun _ => rfl) fun ρ w hc hf hF hr => ?_) ?_
    · have h137 : ρ (.tmp 137) = .int .i64 0 := hr 137 (by simp [Op.operands, Call.operands])
      simp [execOp, resolve, invoke, builtin, go_sem, hc, hf, h137]
    refine fc rfl (sayV 139 rfl (.bool true) (fun _ => rfl) fun ρ w hc hf hF hr => ?_) ?_
    · have h138 : ρ (.tmp 138) = .bool true := hr 138 (by simp [Op.operands, Call.operands])
      simp [execOp, resolve, invoke, builtin, go_sem, hc, hf, h138]
    refine fc rfl (sayV 140 rfl (u4) (fun _ => rfl) fun ρ w hc hf hF hr => ?_) ?_
    · have h9 := (show ρ (.tmp 9) = a0.eval (.tmp 9) from hr 9 (by simp [Op.operands, Call.operands])).trans e9
      simp [execOp, resolve, invoke, builtin, go_sem, hc, hf, h9]
    refine fc rfl (sayN 141 rfl fun ρ w hc hf hF hr => ?_) ?_
    · refine ⟨.slice (some ⟨w.heap.size, 0, none⟩) 4 4, w.alloc (.cells #[.int .u32 5, .int .u32 0, .int .u32 0, .int .u32 0] 22), ?_, (Fwd.refl w).alloc _, ?_⟩
      · simp [execOp, resolve, invoke, builtin, go_sem, hc, hf]
      · exact (Blk.lit w [5, 0, 0, 0] (Ok.cons (by omega) (Ok.cons (by omega) (Ok.cons (by omega) (Ok.cons (by omega) Ok.nil)))) #[.int .u32 5, .int .u32 0, .int .u32 0, .int .u32 0] rfl).rdAll 4 (by simp) (by unfold maxLen; omega)
    refine fc rfl (sayC 142 rfl fun ρ w hc hf hF hr => ?_) ?_
    · have h140 : ρ (.tmp 140) = u4 := hr 140 (by simp [Op.operands, Call.operands])
      have h141 : Rd w (ρ (.tmp 141)) [5, 0, 0, 0] := hr 141 (by simp [Op.operands, Call.operands])
      refine ⟨16, #[u4, ρ (.tmp 141)], ?_, ?_⟩
      · simp [execOp, resolve, invoke, builtin, go_sem, hc, hf, h140]
      · refine (same8q (H4.out.fwd hF) h141 (by decide) (by decide)).mono ?_
        rintro e w' ⟨rfl, m, rfl⟩
        exact ⟨_, rfl, (Fwd.refl w).drewN m, rfl⟩
    refine fc rfl (sayV 143 rfl (.bool true) (fun _ => rfl) fun ρ w hc hf hF hr => ?_) ?_
    · have h139 : ρ (.tmp 139) = .bool true := hr 139 (by simp [Op.operands, Call.operands])
      have h142 : ρ (.tmp 142) = .bool true := hr 142 (by simp [Op.operands, Call.operands])
      simp [execOp, resolve, invoke, builtin, go_sem, hc, hf, h139, h142]
    refine fc rfl (sayV 144 rfl (.int .i64 3) (fun _ => rfl) fun ρ w hc hf hF hr => ?_) ?_
    · have h12 := (show ρ (.tmp 12) = a0.eval (.tmp 12) from hr 12 (by simp [Op.operands, Call.operands])).trans e12
      simp [execOp, resolve, invoke, builtin, go_sem, hc, hf, h12]
    refine fc rfl (sayV 145 rfl (.bool true) (fun _ => rfl) fun ρ w hc hf hF hr => ?_) ?_
    · have h144 : ρ (.tmp 144) = .int .i64 3 := hr 144 (by simp [Op.operands, Call.operands])
      simp [execOp, resolve, invoke, builtin, go_sem, hc, hf, h144]
    refine fc rfl (sayV 146 rfl (.bool true) (fun _ => rfl) fun ρ w hc hf hF hr => ?_) ?_
    · have h145 : ρ (.tmp 145) = .bool true := hr 145 (by simp [Op.operands, Call.operands])
      simp [execOp, resolve, invoke, builtin, go_sem, hc, hf, h145]
    refine fc rfl (sayV 147 rfl (.int .i64 1) (fun _ => rfl) fun ρ w hc hf hF hr => ?_) ?_
    · have h14 := (show ρ (.tmp 14) = a0.eval (.tmp 14) from hr 14 (by simp [Op.operands, Call.operands])).trans e14
      simp [execOp, resolve, invoke, builtin, go_sem, hc, hf, h14]
    refine fc rfl (sayV 148 rfl (.bool true) (fun _ => rfl) fun ρ w hc hf hF hr => ?_) ?_
    · have h147 : ρ (.tmp 147) = .int .i64 1 := hr 147 (by simp [Op.operands, Call.operands])
      simp [execOp, resolve, invoke, builtin, go_sem, hc, hf, h147]
    refine fc rfl (sayV 149 rfl (.bool true) (fun _ => rfl) fun ρ w hc hf hF hr => ?_) ?_
    · have h146 : ρ (.tmp 146) = .bool true := hr 146 (by simp [Op.operands, Call.operands])
      have h148 : ρ (.tmp 148) = .bool true := hr 148 (by simp [Op.operands, Call.operands])
      simp [execOp, resolve, invoke, builtin, go_sem, hc, hf, h146, h148]
    refine fc rfl (sayV 150 rfl (.bool true) (fun _ => rfl) fun ρ w hc hf hF hr => ?_) ?_
    · have h149 : ρ (.tmp 149) = .bool true := hr 149 (by simp [Op.operands, Call.operands])
      simp [execOp, resolve, invoke, builtin, go_sem, hc, hf, h149]
    refine fc rfl (sayV 151 rfl (.int .i64 3) (fun _ => rfl) fun ρ w hc hf hF hr => ?_) ?_
    · have h16 := (show ρ (.tmp 16) = a0.eval (.tmp 16) from hr 16 (by simp [Op.operands, Call.operands])).trans e16
      simp [execOp, resolve, invoke, builtin, go_sem, hc, hf, h16]
    refine fc rfl (sayV 152 rfl (.bool true) (fun _ => rfl) fun ρ w hc hf hF hr => ?_) ?_
    · have h151 : ρ (.tmp 151) = .int .i64 3 := hr 151 (by simp [Op.operands, Call.operands])
      simp [execOp, resolve, invoke, builtin, go_sem, hc, hf, h151]
    refine fc rfl (sayV 153 rfl (.bool true) (fun _ => rfl) fun ρ w hc hf hF hr => ?_) ?_
    · have h150 : ρ (.tmp 150) = .bool true := hr 150 (by simp [Op.operands, Call.operands])
      have h152 : ρ (.tmp 152) = .bool true := hr 152 (by simp [Op.operands, Call.operands])
      simp [execOp, resolve, invoke, builtin, go_sem, hc, hf, h150, h152]
    refine fc rfl (sayV 154 rfl (.bool true) (fun _ => rfl) fun ρ w hc hf hF hr => ?_) ?_
    · have h153 : ρ (.tmp 153) = .bool true := hr 153 (by simp [Op.operands, Call.operands])
      simp [execOp, resolve, invoke, builtin, go_sem, hc, hf, h153]
    refine fc rfl (sayV 155 rfl (.int .i64 3) (fun _ => rfl) fun ρ w hc hf hF hr => ?_) ?_
    · have h18 := (show ρ (.tmp 18) = a0.eval (.tmp 18) from hr 18 (by simp [Op.operands, Call.operands])).trans e18
      simp [execOp, resolve, invoke, builtin, go_sem, hc, hf, h18]
    refine fc rfl (sayV 156 rfl (.bool true) (fun _ => rfl) fun ρ w hc hf hF hr => ?_) ?_
    · have h155 : ρ (.tmp 155) = .int .i64 3 := hr 155 (by simp [Op.operands, Call.operands])
      simp [execOp, resolve, invoke, builtin, go_sem, hc, hf, h155]
    refine fc rfl (sayV 157 rfl (.bool true) (fun _ => rfl) fun ρ w hc hf hF hr => ?_) ?_
    · have h154 : ρ (.tmp 154) = .bool true := hr 154 (by simp [Op.operands, Call.operands])
      have h156 : ρ (.tmp 156) = .bool true := hr 156 (by simp [Op.operands, Call.operands])
      simp [execOp, resolve, invoke, builtin, go_sem, hc, hf, h154, h156]
    refine fc rfl (sayV 158 rfl (.bool true) (fun _ => rfl) fun ρ w hc hf hF hr => ?_) ?_
    · have h157 : ρ (.tmp 157) = .bool true := hr 157 (by simp [Op.operands, Call.operands])
      simp [execOp, resolve, invoke, builtin, go_sem, hc, hf, h157]
    refine fc rfl (sayV 159 rfl (.int .i64 3) (fun _ => rfl) fun ρ w hc hf hF hr => ?_) ?_
    · have h20 := (show ρ (.tmp 20) = a0.eval (.tmp 20) from hr 20 (by simp [Op.operands, Call.operands])).trans e20
      simp [execOp, resolve, invoke, builtin, go_sem, hc, hf, h20]
    refine fc rfl (sayV 160 rfl (.bool true) (fun _ => rfl) fun ρ w hc hf hF hr => ?_) ?_
    · have h159 : ρ (.tmp 159) = .int .i64 3 := hr 159 (by simp [Op.operands, Call.operands])
      simp [execOp, resolve, invoke, builtin, go_sem, hc, hf, h159]
    refine fc rfl (sayV 161 rfl (.bool true) (fun _ => rfl) fun ρ w hc hf hF hr => ?_) ?_
    · have h158 : ρ (.tmp 158) = .bool true := hr 158 (by simp [Op.operands, Call.operands])
      have h160 : ρ (.tmp 160) = .bool true := hr 160 (by simp [Op.operands, Call.operands])
      simp [execOp, resolve, invoke, builtin, go_sem, hc, hf, h158, h160]
    refine fc rfl (sayV 162 rfl (.int .i64 0) (fun _ => rfl) fun ρ w hc hf hF hr => ?_) ?_
    · have h22 := (show ρ (.tmp 22) = a0.eval (.tmp 22) from hr 22 (by simp [Op.operands, Call.operands])).trans e22
      simp [execOp, resolve, invoke, builtin, go_sem, hc, hf, h22]
    refine fc rfl (sayV 163 rfl (.bool true) (fun _ => rfl) fun ρ w hc hf hF hr => ?_) ?_
    · have h162 : ρ (.tmp 162) = .int .i64 0 := hr 162 (by simp [Op.operands, Call.operands])
      simp [execOp, resolve, invoke, builtin, go_sem, hc, hf, h162]
    refine fc rfl (sayV 164 rfl (.bool true) (fun _ => rfl) fun ρ w hc hf hF hr => ?_) ?_
    · have h163 : ρ (.tmp 163) = .bool true := hr 163 (by simp [Op.operands, Call.operands])
      simp [execOp, resolve, invoke, builtin, go_sem, hc, hf, h163]
    refine fc rfl (sayV 165 rfl (.slice zo 1024 zc) (fun _ => rfl) fun ρ w hc hf hF hr => ?_) ?_
    · have h21 := (show ρ (.tmp 21) = a0.eval (.tmp 21) from hr 21 (by simp [Op.operands, Call.operands])).trans e21
      simp [execOp, resolve, invoke, builtin, go_sem, hc, hf, h21]
    refine fc rfl (sayV 166 rfl (.int .i64 1024) (fun _ => rfl) fun ρ w hc hf hF hr => ?_) ?_
    · have h165 : ρ (.tmp 165) = .slice zo 1024 zc := hr 165 (by simp [Op.operands, Call.operands])
      simp [execOp, resolve, invoke, builtin, go_sem, hc, hf, h165]
    refine fc rfl (sayV 167 rfl (.bool true) (fun _ => rfl) fun ρ w hc hf hF hr => ?_) ?_
    · have h166 : ρ (.tmp 166) = .int .i64 1024 := hr 166 (by simp [Op.operands, Call.operands])
      simp [execOp, resolve, invoke, builtin, go_sem, hc, hf, h166]
    refine fc rfl (sayV 168 rfl (.bool true) (fun _ => rfl) fun ρ w hc hf hF hr => ?_) ?_
    · have h164 : ρ (.tmp 164) = .bool true := hr 164 (by simp [Op.operands, Call.operands])
      have h167 : ρ (.tmp 167) = .bool true := hr 167 (by simp [Op.operands, Call.operands])
      simp [execOp, resolve, invoke, builtin, go_sem, hc, hf, h164, h167]
    refine fc rfl (sayC 169 rfl fun ρ w hc hf hF hr => ?_) ?_
    · refine ⟨10, #[.int .u32 3, .int .i64 998244352], ?_, ?_⟩
      · simp [execOp, resolve, invoke, builtin, go_sem, hc, hf]
      · refine (p_one w).mono ?_
        rintro e w' ⟨rfl, rfl⟩
        exact ⟨_, rfl, Fwd.refl _, rfl⟩
    refine fc rfl (sayV 170 rfl (.bool true) (fun _ => rfl) fun ρ w hc hf hF hr => ?_) ?_
    · have h169 : ρ (.tmp 169) = .int .u32 1 := hr 169 (by simp [Op.operands, Call.operands])
      simp [execOp, resolve, invoke, builtin, go_sem, hc, hf, h169]
    refine fc rfl (sayV 171 rfl (.bool true) (fun _ => rfl) fun ρ w hc hf hF hr => ?_) ?_
    · have h170 : ρ (.tmp 170) = .bool true := hr 170 (by simp [Op.operands, Call.operands])
      simp [execOp, resolve, invoke, builtin, go_sem, hc, hf, h170]
    refine fc rfl (sayC 172 rfl fun ρ w hc hf hF hr => ?_) ?_
    · refine ⟨10, #[.int .u32 2, .int .i64 (-1)], ?_, ?_⟩
      · simp [execOp, resolve, invoke, builtin, go_sem, hc, hf]
      · refine (p_two w).mono ?_
        rintro e w' ⟨rfl, rfl⟩
        exact ⟨_, rfl, Fwd.refl _, rfl⟩
    refine fc rfl (sayV 173 rfl (.bool true) (fun _ => rfl) fun ρ w hc hf hF hr => ?_) ?_
    · have h172 : ρ (.tmp 172) = .int .u32 499122177 := hr 172 (by simp [Op.operands, Call.operands])
      simp [execOp, resolve, invoke, builtin, go_sem, hc, hf, h172]
    refine fc rfl (sayV 174 rfl (.bool true) (fun _ => rfl) fun ρ w hc hf hF hr => ?_) ?_
    · have h171 : ρ (.tmp 171) = .bool true := hr 171 (by simp [Op.operands, Call.operands])
      have h173 : ρ (.tmp 173) = .bool true := hr 173 (by simp [Op.operands, Call.operands])
      simp [execOp, resolve, invoke, builtin, go_sem, hc, hf, h171, h173]
    refine fc rfl (sayV 175 rfl (.bool true) (fun _ => rfl) fun ρ w hc hf hF hr => ?_) ?_
    · have h174 : ρ (.tmp 174) = .bool true := hr 174 (by simp [Op.operands, Call.operands])
      simp [execOp, resolve, invoke, builtin, go_sem, hc, hf, h174]
    refine fc rfl (sayC 176 rfl fun ρ w hc hf hF hr => ?_) ?_
    · refine ⟨10, #[.int .u32 0, .int .i64 0], ?_, ?_⟩
      · simp [execOp, resolve, invoke, builtin, go_sem, hc, hf]
      · refine (p_three w).mono ?_
        rintro e w' ⟨rfl, rfl⟩
        exact ⟨_, rfl, Fwd.refl _, rfl⟩
    refine fc rfl (sayV 177 rfl (.bool true) (fun _ => rfl) fun ρ w hc hf hF hr => ?_) ?_
    · have h176 : ρ (.tmp 176) = .int .u32 1 := hr 176 (by simp [Op.operands, Call.operands])
      simp [execOp, resolve, invoke, builtin, go_sem, hc, hf, h176]
    refine fc rfl (sayV 178 rfl (.bool true) (fun _ => rfl) fun ρ w hc hf hF hr => ?_) ?_
    · have h175 : ρ (.tmp 175) = .bool true := hr 175 (by simp [Op.operands, Call.operands])
      have h177 : ρ (.tmp 177) = .bool true := hr 177 (by simp [Op.operands, Call.operands])
      simp [execOp, resolve, invoke, builtin, go_sem, hc, hf, h175, h177]
    refine fc rfl (sayV 179 rfl (.bool true) (fun _ => rfl) fun ρ w hc hf hF hr => ?_) ?_
    · have h178 : ρ (.tmp 178) = .bool true := hr 178 (by simp [Op.operands, Call.operands])
      simp [execOp, resolve, invoke, builtin, go_sem, hc, hf, h178]
    refine fc rfl (sayC 180 rfl fun ρ w hc hf hF hr => ?_) ?_
    · refine ⟨10, #[.int .u32 998244353, .int .i64 (-3)], ?_, ?_⟩
      · simp [execOp, resolve, invoke, builtin, go_sem, hc, hf]
      · refine (p_four w).mono ?_
        rintro e w' ⟨rfl, rfl⟩
        exact ⟨_, rfl, Fwd.refl _, rfl⟩
    refine fc rfl (sayV 181 rfl (.bool true) (fun _ => rfl) fun ρ w hc hf hF hr => ?_) ?_
    · have h180 : ρ (.tmp 180) = .int .u32 0 := hr 180 (by simp [Op.operands, Call.operands])
      simp [execOp, resolve, invoke, builtin, go_sem, hc, hf, h180]
    refine fc rfl (sayV 182 rfl (.bool true) (fun _ => rfl) fun ρ w hc hf hF hr => ?_) ?_
    · have h179 : ρ (.tmp 179) = .bool true := hr 179 (by simp [Op.operands, Call.operands])
      have h181 : ρ (.tmp 181) = .bool true := hr 181 (by simp [Op.operands, Call.operands])
      simp [execOp, resolve, invoke, builtin, go_sem, hc, hf, h179, h181]
    refine fc rfl (sayN 183 rfl fun ρ w hc hf hF hr => ?_) ?_
    · have h84 : ρ (.tmp 84) = .bool true := hr 84 (by simp [Op.operands, Call.operands])
      have h129 : ρ (.tmp 129) = .bool true := hr 129 (by simp [Op.operands, Call.operands])
      have h136 : ρ (.tmp 136) = .bool true := hr 136 (by simp [Op.operands, Call.operands])
      have h143 : ρ (.tmp 143) = .bool true := hr 143 (by simp [Op.operands, Call.operands])
      have h161 : ρ (.tmp 161) = .bool true := hr 161 (by simp [Op.operands, Call.operands])
      have h168 : ρ (.tmp 168) = .bool true := hr 168 (by simp [Op.operands, Call.operands])
      have h182 : ρ (.tmp 182) = .bool true := hr 182 (by simp [Op.operands, Call.operands])
      refine ⟨.slice (some ⟨w.heap.size, 0, none⟩) 7 7, w.alloc (.cells #[.bool true, .bool true, .bool true, .bool true, .bool true, .bool true, .bool true] 4), ?_, (Fwd.refl w).alloc _, ?_⟩
      · simp [execOp, resolve, invoke, builtin, go_sem, hc, hf, h84, h129, h136, h143, h161, h168, h182]
      · refine ⟨_, rfl, fun k hk => ?_⟩
        rw [cell_of_row _ w.heap.size k _ _ _ (heap_alloc_new w _)]
        have : k = 0 ∨ k = 1 ∨ k = 2 ∨ k = 3 ∨ k = 4 ∨ k = 5 ∨ k = 6 := by omega
        rcases this with rfl | rfl | rfl | rfl | rfl | rfl | rfl <;> rfl
    refine fc rfl (sayN 23 rfl fun ρ w hc hf hF hr => ?_) ?_
    · have h183 : rowsS (ρ (.tmp 183)) w := hr 183 (by simp [Op.operands, Call.operands])
      exact ⟨ρ (.tmp 183), w, by simp [execOp, resolve, invoke, builtin, go_sem, hc, hf], Fwd.refl w, h183⟩
    exact fun o ho => by cases ho
  case hend =>
    intro a w hF hn hd hsay
    have r0 := (show a.eval (.tmp 0) = a0.eval (.tmp 0) from hsay 0).trans e0
    have r23 : rowsS (a.eval (.tmp 23)) w := hsay 23
    obtain ⟨g, h23, hcell⟩ := r23
    have hcell := hcell kk hk7
    have hA := frame_lit hn hd
    obtain ⟨f, hf⟩ : ∃ f : Nat → Value, f = fun t => a.eval (.tmp t) := ⟨_, rfl⟩
    rw [← hf] at hA
    have f0 : f 0 = .int .i64 which := by rw [hf]; exact r0
    have f23 : f 23 = .slice (some ⟨g, 0, none⟩) 7 7 := by rw [hf]; exact h23
    replace hA : a = { tmps := #[f 0, f 1, f 2, f 3, f 4, f 5, f 6, f 7, f 8, f 9, f 10, f 11, f 12, f 13, f 14, f 15, f 16, f 17, f 18, f 19, f 20, f 21, f 22, f 23, f 24, f 25, f 26, f 27, f 28, f 29, f 30, f 31, f 32, f 33, f 34, f 35, f 36, f 37, f 38, f 39, f 40, f 41, f 42, f 43, f 44, f 45, f 46, f 47, f 48, f 49, f 50, f 51, f 52, f 53, f 54, f 55, f 56, f 57, f 58, f 59, f 60, f 61, f 62, f 63, f 64, f 65, f 66, f 67, f 68, f 69, f 70, f 71, f 72, f 73, f 74, f 75, f 76, f 77, f 78, f 79, f 80, f 81, f 82, f 83, f 84, f 85, f 86, f 87, f 88, f 89, f 90, f 91, f 92, f 93, f 94, f 95, f 96, f 97, f 98, f 99, f 100, f 101, f 102, f 103, f 104, f 105, f 106, f 107, f 108, f 109, f 110, f 111, f 112, f 113, f 114, f 115, f 116, f 117, f 118, f 119, f 120, f 121, f 122, f 123, f 124, f 125, f 126, f 127, f 128, f 129, f 130, f 131, f 132, f 133, f 134, f 135, f 136, f 137, f 138, f 139, f 140, f 141, f 142, f 143, f 144, f 145, f 146, f 147, f 148, f 149, f 150, f 151, f 152, f 153, f 154, f 155, f 156, f 157, f 158, f 159, f 160, f 161, f 162, f 163, f 164, f 165, f 166, f 167, f 168, f 169, f 170, f 171, f 172, f 173, f 174, f 175, f 176, f 177, f 178, f 179, f 180, f 181, f 182, f 183, f 184, f 185, f 186, f 187, f 188, f 189, f 190], defers := [] } := hA.trans rfl
    rw [f0, f23] at hA
    rw [hA]
    have HF2 := hid (HF.out.trans hF)
    clear hsay r0 h23 hA hf f0 f23 hn hd n0 d0 e0 e3 e4 e5 e6 e7 e8 e9 e10 e12 e14 e16 e18 e20 e21 e22
    go_wp2_with fail
    refine (cK.out _).mono ?_
    rintro e wz ⟨rfl, hww⟩
    rw [hww]
    clear hww wz
    go_wp2_with fail
    go_ret
    exact ⟨rfl, HF2.out⟩
end Go.Proofs.Ytimlpehgafjkpaa
