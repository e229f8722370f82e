/- Contracts: points as a list, remainders, rows that are the same, so many points, the laws' Row. -/
import Derived.Test.YtimlpehgafjkpaaXNT6
import Derived.Test.YtimlpehgafjkpaaKF
import Derived.Test.YtimlpehgafjkpaaXF1
import Derived.Test.YtimlpehgafjkpaaXWI
namespace Go.Proofs.Ytimlpehgafjkpaa
open Go.RowKit Go.Maps
set_option linter.unusedVariables false
set_option linter.unusedSimpArgs false

theorem Arr.rd {w : World} {g : Nat} {L : List Nat} (h : Arr w g L) (n : Nat) (hn : n ≤ 1024) : Rd w (.slice (some ⟨g, 0, none⟩) n 1024) (L.take n) := by
  have hl : (L.take n).length = n := by rw [List.length_take, h.2.1]; omega
  refine ⟨h.2.2.take n, .inr ⟨g, 0, 1024, by rw [hl], by rw [hl]; exact hn, by unfold maxLen; omega, fun i hi => ?_, h.lt⟩⟩
  rw [hl] at hi
  rw [Nat.zero_add, h.cell i (by omega), List.getD_eq_getElem?_getD, List.getD_eq_getElem?_getD, List.getElem?_take, if_pos hi]

theorem slice_pts (g n : Nat) (hn : n ≤ 1024) (w : World) : (Instr.sliceAt 57 (.pointer (some ⟨g, 0, none⟩)) none (some (.int .i64 (n : Int))) none).run Try.prog w = .ok (.slice (some ⟨g, 0, none⟩) n 1024) w := by
  have hal : Try.prog.arrayLen 57 = 1024 := by kernel_rfl
  have hel : Try.prog.elem 57 = 22 := by kernel_rfl
  have hs : (sizeOf 22).run Try.prog w = .ok 1 w := by
    have := size_u32
    cases hq : Try.prog.info? 22 with
    | none => simp [hq] at this
    | some i => simp [hq] at this; simp [sizeOf, typeInfo, hq, this]
  have := run_sliceAt_array_h (P := Try.prog) w 57 ⟨g, 0, none⟩ (by rw [hal, hel]; exact Try.underlying57) .i64 (n : Int) (by omega) (by rw [hal]; omega)
  rw [this, hel, hs, hal]
  simp only [Result.andThen, slicedAt]
  congr 2

theorem list_any {w : World} {g : Nat} {L : List Nat} (n : Nat) (hA : Arr w g L) (hn : n ≤ 1024) :
    Calls Try.prog 26 #[.pointer (some ⟨g, 0, none⟩), .int .i64 n] w fun e w' => ∃ v, e = .returned v ∧ Rd w' v (L.take n) ∧ Fwd w w' := by
  have hl : (L.take n).length = n := by rw [List.length_take, hA.2.1]; omega
  have hr0 := hA.rd n hn
  obtain ⟨xs, hxs⟩ : ∃ xs, xs = L.take n := ⟨_, rfl⟩
  rw [← hxs] at hl hr0 ⊢
  have HL := hid hl
  clear hl hA hxs
  have hsl := slice_pts g n hn
  go_enter Try.func26, Try.ntmps26
  go_wp2_with (first | (at_make; refine law_make rfl _ _ rfl .i64 .i64 _ _ n rfl rfl (by omega) (by omega) (by omega) ?_))
  intro w1 hb1 hf1
  have hr1 := hr0.fwd hf1
  have HB : Hid (Blk w1 w.heap.size ([] ++ (List.replicate n 0 ++ []))) := show Blk _ _ _ by simpa using hb1
  clear hb1
  go_wp2_with (with_reducible refine law_copy (by with_unfolding_all rfl) (.tmp 8) (.tmp 12) (by with_unfolding_all rfl) w.heap.size 0 n n _ (by with_unfolding_all rfl) (by with_unfolding_all rfl) [] (List.replicate n 0) [] xs HB.out (by simp) (by simp) hr1 (by simp [HL.out]) ?_)
  intro w2 hb2 ho2
  have HB2 : Hid (Blk w2 w.heap.size xs) := show Blk _ _ _ by have := HL.out; simpa [this] using hb2
  clear hb2
  go_wp2
  go_ret
  refine ⟨_, rfl, ?_, hf1.wrote ho2 (Nat.le_refl _)⟩
  have := HB2.out.rdAll n (by rw [HL.out]; exact Nat.le_refl _) (by unfold maxLen; omega)
  rwa [HL.out] at this

/-- All are remainders. -/
def allR (xs : List Nat) : Bool := xs.all fun x => decide (x < 998244353)
theorem allR_take {xs : List Nat} {k : Nat} (hk : k < xs.length) : allR (xs.take (k + 1)) = (allR (xs.take k) && decide (xs.getD k 0 < 998244353)) := by
  unfold allR
  rw [List.take_succ_eq_append_getElem hk, List.all_append]
  simp [hk]
theorem allR_false {xs : List Nat} {k : Nat} (hk : k < xs.length) (h : ¬ xs.getD k 0 < 998244353) : allR xs = false := by
  rw [Bool.eq_false_iff]
  intro hall
  unfold allR at hall
  rw [List.all_eq_true] at hall
  have := hall (xs[k]) (List.getElem_mem hk)
  simp [hk] at h this
  omega
theorem allR_get {xs : List Nat} (h : allR xs = true) (i : Nat) : xs.getD i 0 < 998244353 := by
  by_cases hi : i < xs.length
  · unfold allR at h
    rw [List.all_eq_true] at h
    have := h _ (List.getElem_mem hi)
    simpa [hi] using this
  · rw [List.getD_eq_getElem?_getD, List.getElem?_eq_none (by omega)]
    simp

set_option maxHeartbeats 1000000 in
theorem areRem_any {w : World} {v : Value} {xs : List Nat} (hv : Rd w v xs) (hs : xs.length ≤ 1000000000) :
    Calls Try.prog 23 #[v] w fun e w' => e = .returned (.bool (allR xs)) ∧ w' = w := by
  obtain ⟨ao, cap, rfl, h1, h2, hok, hc⟩ := hv.parts
  unfold maxLen at h2
  go_enter Try.func23, Try.ntmps23
  go_wp2_with fail
  go_loopw [7] (fun i wr => ∃ k : Nat, k ≤ xs.length ∧ i = .int .i64 k ∧ wr = w ∧ allR (xs.take k) = true) (fun i _ => xs.length - (intOf i).toNat)
  case atStart => exact ⟨0, by omega, rfl, rfl, rfl⟩
  case round =>
    obtain ⟨k, hk, rfl, rfl, hval⟩ := hrel
    have HV := hid hval
    clear hval
    by_cases hlt : k < xs.length
    · obtain ⟨bb, bo, rfl, hyk⟩ := hc k hlt
      have hstep := hid (allR_take hlt)
      have hbad := hid (allR_false (xs := xs) hlt)
      obtain ⟨x, hx⟩ : ∃ x, x = xs.getD k 0 := ⟨_, rfl⟩
      have hxb : x < 4294967296 := by rw [hx]; exact hok.getD _
      rw [← hx] at hyk hstep hbad
      clear hx
      by_cases hp : x < 998244353
      · have HP := hid hp
        have i1 : decide (998244353 ≤ (x : Int)) = false := decide_eq_false (by omega)
        clear hp
        go_wp2_with fail
        go_roundw
        case rel =>
          refine ⟨k + 1, by omega, by go_num, trivial, ?_⟩
          rw [hstep.out, HV.out, decide_eq_true HP.out]; rfl
        case measure => simp [intOf]; omega
      · have HP := hid hp
        have i1 : decide (998244353 ≤ (x : Int)) = true := decide_eq_true (by omega)
        clear hp
        go_wp2_with fail
        go_ret
        rw [hbad.out HP.out]
        exact ⟨rfl, rfl⟩
    · go_wp2_with fail
      go_ret
      have hkl : k = xs.length := by omega
      have := HV.out
      rw [hkl, List.take_length] at this
      rw [this]
      exact ⟨rfl, rfl⟩

set_option maxHeartbeats 1000000 in
theorem small8_any {w : World} {v : Value} {xs : List Nat} (hv : Rd w v xs) (hs : xs.length ≤ 1000000000) :
    Calls Try.prog 27 #[v] w fun e w' => e = .returned (.bool (allR xs)) ∧ w' = w := by
  obtain ⟨ao, cap, rfl, h1, h2, hok, hc⟩ := hv.parts
  unfold maxLen at h2
  go_enter Try.func27, Try.ntmps27
  go_wp2_with fail
  go_loopw [3] (fun i wr => ∃ k : Nat, k ≤ xs.length ∧ i = .int .i64 k ∧ wr = w ∧ allR (xs.take k) = true) (fun i _ => xs.length - (intOf i).toNat)
  case atStart => exact ⟨0, by omega, rfl, rfl, rfl⟩
  case round =>
    obtain ⟨k, hk, rfl, rfl, hval⟩ := hrel
    have HV := hid hval
    clear hval
    by_cases hlt : k < xs.length
    · obtain ⟨bb, bo, rfl, hyk⟩ := hc k hlt
      have hstep := hid (allR_take hlt)
      have hbad := hid (allR_false (xs := xs) hlt)
      obtain ⟨x, hx⟩ : ∃ x, x = xs.getD k 0 := ⟨_, rfl⟩
      have hxb : x < 4294967296 := by rw [hx]; exact hok.getD _
      rw [← hx] at hyk hstep hbad
      clear hx
      by_cases hp : x < 998244353
      · have HP := hid hp
        have i1 : decide (998244353 ≤ (x : Int)) = false := decide_eq_false (by omega)
        clear hp
        go_wp2_with fail
        go_roundw
        case rel =>
          refine ⟨k + 1, by omega, by go_num, trivial, ?_⟩
          rw [hstep.out, HV.out, decide_eq_true HP.out]; rfl
        case measure => simp [intOf]; omega
      · have HP := hid hp
        have i1 : decide (998244353 ≤ (x : Int)) = true := decide_eq_true (by omega)
        clear hp
        go_wp2_with fail
        go_ret
        rw [hbad.out HP.out]
        exact ⟨rfl, rfl⟩
    · go_wp2_with fail
      go_ret
      have hkl : k = xs.length := by omega
      have := HV.out
      rw [hkl, List.take_length] at this
      rw [this]
      exact ⟨rfl, rfl⟩

/-- Rows that are the same. -/
theorem take_same {xs ys : List Nat} {k : Nat} (h : xs.take k = ys.take k) (h1 : k < xs.length) (h2 : k < ys.length) (he : xs.getD k 0 = ys.getD k 0) : xs.take (k + 1) = ys.take (k + 1) := by
  rw [List.take_succ_eq_append_getElem h1, List.take_succ_eq_append_getElem h2, h]
  simp [List.getD_eq_getElem?_getD, h1, h2] at he
  rw [he]
set_option maxHeartbeats 1000000 in
theorem same8_any {w : World} {u v : Value} {xs ys : List Nat} (hu : Rd w u xs) (hv : Rd w v ys) (hs : xs.length ≤ 1000000000) (hs2 : ys.length ≤ 1000000000) :
    Calls Try.prog 16 #[u, v] w fun e w' => e = .returned (.bool (decide (xs = ys))) ∧ Fwd w w' := by
  obtain ⟨ao, cap, rfl, h1, h2, hok, hc⟩ := hu.parts
  obtain ⟨ap, cap2, rfl, h3, h4, hok2, hc2⟩ := hv.parts
  unfold maxLen at h2 h4
  by_cases hlen : xs.length = ys.length
  · go_enter Try.func16, Try.ntmps16
    go_wp2_with fail
    go_loopw [5] (fun i wr => ∃ k : Nat, k ≤ xs.length ∧ i = .int .i64 k ∧ Fwd w wr ∧ xs.take k = ys.take k) (fun i _ => xs.length - (intOf i).toNat)
    case atStart => exact ⟨0, by omega, rfl, Fwd.refl w, rfl⟩
    case round =>
      obtain ⟨k, hk, rfl, hF, hval⟩ := hrel
      have HV := hid hval
      have HF := hid hF
      clear hval hF
      by_cases hlt : k < xs.length
      · obtain ⟨bb, bo, rfl, hyk⟩ := hc k hlt
        obtain ⟨bb2, bo2, rfl, hyk2⟩ := hc2 k (by omega)
        have hyk := HF.out.cell hyk
        have hyk2 := HF.out.cell hyk2
        have hstep := hid (take_same HV.out hlt (by omega))
        have hbad : Hid (xs.getD k 0 ≠ ys.getD k 0 → xs ≠ ys) := hid (fun h e => h (by rw [e]))
        obtain ⟨x, hx⟩ : ∃ x, x = xs.getD k 0 := ⟨_, rfl⟩
        have hxb : x < 4294967296 := by rw [hx]; exact hok.getD _
        obtain ⟨y, hy⟩ : ∃ y, y = ys.getD k 0 := ⟨_, rfl⟩
        have hyb : y < 4294967296 := by rw [hy]; exact hok2.getD _
        rw [← hx] at hyk hstep hbad
        rw [← hy] at hyk2 hstep hbad
        clear hx hy
        by_cases hp : x = y
        · go_wp2_with fail
          go_quiet (fail)
          go_wp2_with fail
          go_roundw
          case rel => exact ⟨k + 1, by omega, by go_num, HF.out.drewN _, hstep.out hp⟩
          case measure => simp [intOf]; omega
        · go_wp2_with fail
          go_quiet (fail)
          go_wp2_with fail
          go_ret
          rw [decide_eq_false (hbad.out hp)]
          exact ⟨rfl, HF.out.drewN _⟩
      · go_wp2_with fail
        go_ret
        have hkl : k = xs.length := by omega
        have := HV.out
        rw [hkl, List.take_length, hlen, List.take_length] at this
        rw [this, decide_eq_true rfl]
        exact ⟨rfl, HF.out⟩
  · have hne : xs ≠ ys := fun e => hlen (by rw [e])
    rw [decide_eq_false hne]
    clear hne
    go_enter Try.func16, Try.ntmps16
    go_wp2_with fail
    go_ret
    exact ⟨rfl, Fwd.refl w⟩

theorem Len_any (w : World) (x : Nat) (hx : x < 18446744073709551616) : Calls Try.prog 34 #[.int .u64 x] w fun e w' => e = .returned (.int .i64 (blen x)) ∧ w' = w := by
  go_enter Try.func34, Try.ntmps34
  go_wp2_with fail
  refine (len64_any _ x hx).mono ?_
  rintro e w1 ⟨rfl, rfl⟩
  go_wp2_with fail
  go_ret
  exact ⟨rfl, rfl⟩

theorem pointsFor_any (w : World) (n : Nat) (h0 : 0 < n) (hn : n ≤ 1024) :
    Calls Try.prog 29 #[.int .i64 n] w fun e w' => e = .returned (.int .i64 ((2 ^ blen (n - 1) : Nat) : Int)) ∧ w' = w := by
  have hb : blen (n - 1) ≤ 10 := (blen_le_iff _ 10).2 (by omega)
  have hc : (n : Int) - 1 = ((n - 1 : Nat) : Int) := by omega
  have hp : 2 ^ blen (n - 1) ≤ 2 ^ 10 := Nat.pow_le_pow_right (by omega) hb
  obtain ⟨m, hm⟩ : ∃ m, m = n - 1 := ⟨_, rfl⟩
  rw [← hm] at hb hc hp ⊢
  have hml : m < 1024 := by omega
  clear hm
  obtain ⟨b, hbb⟩ : ∃ b, b = blen m := ⟨_, rfl⟩
  rw [← hbb] at hb hp ⊢
  have HB := hid hbb
  clear hbb
  go_enter Try.func29, Try.ntmps29
  go_wp2_with fail
  refine (Len_any _ m (by omega)).mono ?_
  rintro e w1 ⟨rfl, rfl⟩
  rw [← HB.out]
  clear HB
  have hcase : b = 0 ∨ b = 1 ∨ b = 2 ∨ b = 3 ∨ b = 4 ∨ b = 5 ∨ b = 6 ∨ b = 7 ∨ b = 8 ∨ b = 9 ∨ b = 10 := by omega
  rcases hcase with rfl | rfl | rfl | rfl | rfl | rfl | rfl | rfl | rfl | rfl | rfl <;> (go_wp2_with fail; go_ret; exact ⟨rfl, rfl⟩)

end Go.Proofs.Ytimlpehgafjkpaa
