/- sfloat's root of two words. -/
/- sfloat's root of a value. -/
import Derived.Test.YtcfhajnboamnnaaDoorXF9
import Derived.Test.YtcfhajnboamnnaaDoorXF22
namespace Go.Proofs.YtcfhajnboamnnaaDoor
open Go.RowKit
set_option linter.unusedVariables false
set_option linter.unusedSimpArgs false

/-- Ahead of a round of root: so many bits are left. -/
def RootI (n i r β : Nat) : Prop := ((i = 0 ∧ β = 0) ∨ (0 < i ∧ β = 2 ^ (i - 1))) ∧ i ≤ 64 ∧ (∃ c, r = c * 2 ^ i) ∧ r + 2 ^ i ≤ 18446744073709551616 ∧ r * r ≤ n ∧ n < (r + 2 ^ i) * (r + 2 ^ i)
theorem root_start {n : Nat} (h : n < 340282366920938463463374607431768211456) : RootI n 64 0 9223372036854775808 := by
  refine ⟨Or.inr ⟨by omega, by decide⟩, by omega, ⟨0, by omega⟩, by decide, by omega, ?_⟩
  rw [Nat.zero_add]
  exact h
theorem root_done {n i r : Nat} (h : RootI n i r 0) : r * r ≤ n ∧ n < (r + 1) * (r + 1) ∧ r < 18446744073709551616 := by
  obtain ⟨h1 | h1, h2, h3, h4, h5, h6⟩ := h
  · rw [h1.1, Nat.pow_zero] at h6 h4
    exact ⟨h5, h6, by omega⟩
  · have := Nat.two_pow_pos (i - 1); omega
theorem root_step {n i r β : Nat} (h : RootI n i r β) (hb : β ≠ 0) :
    r ||| β = r + β ∧ r + β < 18446744073709551616 ∧ β < 18446744073709551616 ∧ r < 18446744073709551616 ∧ (n < (r + β) * (r + β) → RootI n (i - 1) r (β / 2)) ∧ (¬ n < (r + β) * (r + β) → RootI n (i - 1) (r + β) (β / 2)) := by
  obtain ⟨h1 | h1, h2, ⟨c, h3⟩, h4, h5, h6⟩ := h
  · exact absurd h1.2 hb
  · obtain ⟨j, rfl⟩ : ∃ j, i = j + 1 := ⟨i - 1, by omega⟩
    rw [Nat.add_sub_cancel] at h1 ⊢
    obtain ⟨_, rfl⟩ := h1
    have hp := Nat.two_pow_pos j
    have e : 2 ^ (j + 1) = 2 ^ j + 2 ^ j := by rw [Nat.pow_succ]; omega
    have hβ : (j = 0 ∧ 2 ^ j / 2 = 0) ∨ (0 < j ∧ 2 ^ j / 2 = 2 ^ (j - 1)) := by
      by_cases z : j = 0
      · subst z; left; exact ⟨rfl, by decide⟩
      · right
        refine ⟨by omega, ?_⟩
        obtain ⟨l, rfl⟩ : ∃ l, j = l + 1 := ⟨j - 1, by omega⟩
        rw [Nat.add_sub_cancel, Nat.pow_succ, Nat.mul_div_cancel _ (by omega)]
    have ho : r ||| 2 ^ j = r + 2 ^ j := by rw [h3]; exact or_add c (2 ^ j) (j + 1) (by omega)
    have e2 : r + 2 ^ (j + 1) = r + 2 ^ j + 2 ^ j := by omega
    refine ⟨ho, by omega, by omega, by omega, fun hl => ⟨hβ, by omega, ⟨2 * c, by rw [h3, Nat.pow_succ, Nat.mul_comm 2 c, Nat.mul_assoc, Nat.mul_comm 2]⟩, by omega, h5, hl⟩, fun hl => ⟨hβ, by omega, ⟨2 * c + 1, by rw [Nat.add_mul, Nat.one_mul, h3, Nat.pow_succ, Nat.mul_comm 2 c, Nat.mul_assoc, Nat.mul_comm 2]⟩, by omega, by omega, by rw [← e2]; exact h6⟩⟩

set_option maxHeartbeats 8000000 in
set_option maxRecDepth 100000 in
theorem wroot_any {w : World} {v : Value} {n : Nat} (h : WV v n) : Calls Tryd.prog 108 #[v] w fun e w' => ∃ r : Nat, e = .returned (.int .u64 r) ∧ (r * r ≤ n ∧ n < (r + 1) * (r + 1) ∧ r < 18446744073709551616) ∧ Fwd w w' := by
  have hW := h
  have hn := h.lt
  obtain ⟨a, b, rfl, h1, h2, hab⟩ := h
  clear hab
  have HS := hid (root_start hn)
  have HW := hid hW
  clear hW hn
  have kV : BlkV (w.alloc (.cells #[.int .u64 (a), .int .u64 (b)] 69)) (w.heap.size) 69 [.int .u64 (a), .int .u64 (b)] := BlkV.made' w (w.heap.size) (by simp) 69 [.int .u64 (a), .int .u64 (b)]
  have hF : Fwd w (w.alloc (.cells #[.int .u64 (a), .int .u64 (b)] 69)) := (Fwd.refl w).alloc _
  go_enter Tryd.func108, Tryd.ntmps108
  have HK := hid (And.intro kV hF)
  clear kV hF
  go_wp2
  go_loopw [3, 4] (fun rv bv wr => ∃ (i r β : Nat), rv = .int .u64 r ∧ bv = .int .u64 β ∧ Hid (RootI n i r β) ∧ BlkV wr w.heap.size 69 [.int .u64 (a), .int .u64 (b)] ∧ Fwd w wr) (fun _ bv _ => (intOf bv).toNat)
  case atStart => exact ⟨64, 0, 9223372036854775808, rfl, rfl, HS, HK.out.1, HK.out.2⟩
  case round =>
    clear HS HK
    obtain ⟨i, r, β, rfl, rfl, HI, kV, hF⟩ := hrel
    by_cases c : β = 0
    · subst c
      go_wp2
      go_ret
      exact ⟨r, rfl, root_done HI.out, hF⟩
    · have i1 : ((β : Int) == 0) = false := by have : (β : Int) ≠ 0 := (by omega); simpa using this
      obtain ⟨o1, o2, o3, o4, o5, o6⟩ := root_step HI.out c
      have H5 := hid o5
      have H6 := hid o6
      clear o5 o6 HI
      have e1 := bits_or_u64_nat r β o4 o3
      rw [o1] at e1
      clear o1
      have hc : 0 < β := by omega
      have pr := fun (w : World) => product_any (w := w) o2 o2
      have le := fun (w : World) (u : Value) (hu : WV u ((r + β) * (r + β))) => wless_any (w := w) HW.out hu
      obtain ⟨R, hRe⟩ : ∃ R, R = r + β := ⟨_, rfl⟩
      rw [← hRe] at e1 pr le o2 H5 H6
      clear hRe
      by_cases cl : n < R * R
      · have hl : decide (n < R * R) = true := decide_eq_true cl
        rw [hl] at le
        clear hl
        have HI := hid (H5.out cl)
        clear H5 H6 cl
        generalize R * R = RR at *
        have vc0 := BlkV.cell kV 0 rfl
        have vz0 := BlkV.frozen kV 0
        have vc1 := BlkV.cell kV 1 rfl
        have vz1 := BlkV.frozen kV 1
        go_wp2_with fail
        replace kV := kV.drew
        replace hF := hF.drew
        clear vc0 vz0 vc1 vz1
        have vc0 := BlkV.cell kV 0 rfl
        have vz0 := BlkV.frozen kV 0
        have vc1 := BlkV.cell kV 1 rfl
        have vz1 := BlkV.frozen kV 1
        refine wp_region_held_drew (S := fun w' => w'.cell? ⟨w.heap.size, 0, none⟩ = some (.int .u64 (a)) ∧ w'.cell? ⟨w.heap.size, 1, none⟩ = some (.int .u64 (b))) (by kernel_rfl) ⟨by with_reducible assumption, by with_reducible assumption⟩ (fun hHeld => ?_)
        refine wpAnyH_take (i := 0) (oi := ?oi1_0) (v := ?vv1_0) ?hi1_0 (by kernel_rfl) (by kernel_rfl) (by kernel_rfl) ?hq1_0 ?hy1_0 hHeld ?rest1_0
        case hi1_0 => (simp only [List.getElem?_toArray, List.getElem?_cons_succ, List.getElem?_cons_zero]; rfl)
        case hq1_0 => exact fun _ _ _ h => h
        case hy1_0 =>
          refine Or.inl ⟨by rfl, ?_⟩
          intro wS hSw
          try dsimp only at hSw
          obtain ⟨q0, q1⟩ := hSw
          go_simp
          try with_reducible rfl
        simp only [Act.put, List.setIfInBounds_toArray, List.set_cons_zero, List.set_cons_succ]
        refine wpAnyH_take (i := 1) (oi := ?oi2_1) (v := ?vv2_1) ?hi2_1 (by kernel_rfl) (by kernel_rfl) (by kernel_rfl) ?hq2_1 ?hy2_1 hHeld ?rest2_1
        case hi2_1 => (simp only [List.getElem?_toArray, List.getElem?_cons_succ, List.getElem?_cons_zero]; rfl)
        case hq2_1 => exact fun _ _ _ h => h
        case hy2_1 =>
          refine Or.inl ⟨by rfl, ?_⟩
          intro wS hSw
          try dsimp only at hSw
          obtain ⟨q0, q1⟩ := hSw
          go_simp
          try with_reducible rfl
        simp only [Act.put, List.setIfInBounds_toArray, List.set_cons_zero, List.set_cons_succ]
        refine wpAnyH_take (i := 2) (oi := ?oi3_2) (v := ?vv3_2) ?hi3_2 (by kernel_rfl) (by kernel_rfl) (by kernel_rfl) ?hq3_2 ?hy3_2 hHeld ?rest3_2
        case hi3_2 => (simp only [List.getElem?_toArray, List.getElem?_cons_succ, List.getElem?_cons_zero]; rfl)
        case hq3_2 => exact fun _ _ _ h => h
        case hy3_2 =>
          refine Or.inl ⟨by rfl, ?_⟩
          intro wS hSw
          try dsimp only at hSw
          obtain ⟨q0, q1⟩ := hSw
          go_simp
          try with_reducible rfl
        simp only [Act.put, List.setIfInBounds_toArray, List.set_cons_zero, List.set_cons_succ]
        refine wpAnyH_take (i := 3) (oi := ?oi4_3) (v := ?vv4_3) ?hi4_3 (by kernel_rfl) (by kernel_rfl) (by kernel_rfl) ?hq4_3 ?hy4_3 hHeld ?rest4_3
        case hi4_3 => (simp only [List.getElem?_toArray, List.getElem?_cons_succ, List.getElem?_cons_zero]; rfl)
        case hq4_3 => exact fun _ _ _ h => h
        case hy4_3 =>
          refine Or.inl ⟨by rfl, ?_⟩
          intro wS hSw
          try dsimp only at hSw
          obtain ⟨q0, q1⟩ := hSw
          go_simp
          try with_reducible rfl
        simp only [Act.put, List.setIfInBounds_toArray, List.set_cons_zero, List.set_cons_succ]
        refine wpAnyH_take (i := 4) (oi := ?oi5_4) (v := ?vv5_4) ?hi5_4 (by kernel_rfl) (by kernel_rfl) (by kernel_rfl) ?hq5_4 ?hy5_4 hHeld ?rest5_4
        case hi5_4 => (simp only [List.getElem?_toArray, List.getElem?_cons_succ, List.getElem?_cons_zero]; rfl)
        case hq5_4 => exact fun _ _ _ h => h
        case hy5_4 =>
          refine Or.inl ⟨by rfl, ?_⟩
          intro wS hSw
          try dsimp only at hSw
          obtain ⟨q0, q1⟩ := hSw
          go_simp
          try with_reducible rfl
        simp only [Act.put, List.setIfInBounds_toArray, List.set_cons_zero, List.set_cons_succ]
        refine wpAnyH_take (i := 5) (oi := ?oi6_5) (v := ?vv6_5) ?hi6_5 (by kernel_rfl) (by kernel_rfl) (by kernel_rfl) ?hq6_5 ?hy6_5 hHeld ?rest6_5
        case hi6_5 => (simp only [List.getElem?_toArray, List.getElem?_cons_succ, List.getElem?_cons_zero]; rfl)
        case hq6_5 => exact fun _ _ _ h => h
        case hy6_5 =>
          refine Or.inl ⟨by rfl, ?_⟩
          intro wS hSw
          try dsimp only at hSw
          obtain ⟨q0, q1⟩ := hSw
          go_simp
          try with_reducible rfl
        simp only [Act.put, List.setIfInBounds_toArray, List.set_cons_zero, List.set_cons_succ]
        refine wpAnyH_take (i := 6) (oi := ?oi7_6) (v := ?vv7_6) ?hi7_6 (by kernel_rfl) (by kernel_rfl) (by kernel_rfl) ?hq7_6 ?hy7_6 hHeld ?rest7_6
        case hi7_6 => (simp only [List.getElem?_toArray, List.getElem?_cons_succ, List.getElem?_cons_zero]; rfl)
        case hq7_6 => exact fun _ _ _ h => h
        case hy7_6 =>
          refine Or.inl ⟨by rfl, ?_⟩
          intro wS hSw
          try dsimp only at hSw
          obtain ⟨q0, q1⟩ := hSw
          go_simp
          try with_reducible rfl
        simp only [Act.put, List.setIfInBounds_toArray, List.set_cons_zero, List.set_cons_succ]
        refine wpAnyH_ready (rs := [7]) (by kernel_rfl) (by simp) ?_
        refine AllReadyH.cons rfl (fun K hK => ?_) AllReadyH.nil
        go_simp
        refine (pr _).mono ?_
        rintro e w11 ⟨u, rfl, hu, hf11⟩
        have HU := hid hu
        obtain ⟨ua, ub, rfl, -, -, -⟩ := hu
        replace kV := kV.fwd hf11
        replace hF := hF.trans hf11
        clear hf11
        clear vc0 vz0 vc1 vz1
        have vc0 := BlkV.cell kV 0 rfl
        have vz0 := BlkV.frozen kV 0
        have vc1 := BlkV.cell kV 1 rfl
        have vz1 := BlkV.frozen kV 1
        go_wp2_with fail
        clear hHeld
        refine hK.out _ _ ⟨by with_reducible assumption, by with_reducible assumption⟩ (fun hHeld => ?_)
        clear hK K
        try simp only [Act.put, List.setIfInBounds_toArray, List.set_cons_zero, List.set_cons_succ]
        refine wpAnyH_ready (rs := [8]) (by kernel_rfl) (by simp) ?_
        refine AllReadyH.cons rfl (fun K hK => ?_) AllReadyH.nil
        go_simp
        refine (le _ _ HU.out).mono ?_
        rintro e w12 ⟨rfl, hf12⟩
        clear HU
        replace kV := kV.fwd hf12
        replace hF := hF.trans hf12
        clear hf12
        clear vc0 vz0 vc1 vz1
        have vc0 := BlkV.cell kV 0 rfl
        have vz0 := BlkV.frozen kV 0
        have vc1 := BlkV.cell kV 1 rfl
        have vz1 := BlkV.frozen kV 1
        go_wp2_with fail
        clear hHeld
        refine hK.out _ _ ⟨by with_reducible assumption, by with_reducible assumption⟩ (fun hHeld => ?_)
        clear hK K
        try simp only [Act.put, List.setIfInBounds_toArray, List.set_cons_zero, List.set_cons_succ]
        refine wpAnyH_take (i := 9) (oi := ?oi8_9) (v := ?vv8_9) ?hi8_9 (by kernel_rfl) (by kernel_rfl) (by kernel_rfl) ?hq8_9 ?hy8_9 hHeld ?rest8_9
        case hi8_9 => (simp only [List.getElem?_toArray, List.getElem?_cons_succ, List.getElem?_cons_zero]; rfl)
        case hq8_9 => exact fun _ _ _ h => h
        case hy8_9 =>
          refine Or.inl ⟨by rfl, ?_⟩
          intro wS hSw
          try dsimp only at hSw
          obtain ⟨q0, q1⟩ := hSw
          go_simp
          try with_reducible rfl
        simp only [Act.put, List.setIfInBounds_toArray, List.set_cons_zero, List.set_cons_succ]
        refine wpAnyH_done (by kernel_rfl) ?_ _
        go_wp2
        go_roundw
        all_goals first
          | (show _ < _; simp [intOf] <;> omega)
          | exact ⟨i - 1, r, β / 2, rfl, by first | go_num | (congr 1; omega) | rfl, HI, kV, hF⟩
      · have hl : decide (n < R * R) = false := decide_eq_false cl
        rw [hl] at le
        clear hl
        have HI := hid (H6.out cl)
        clear H5 H6 cl
        generalize R * R = RR at *
        have vc0 := BlkV.cell kV 0 rfl
        have vz0 := BlkV.frozen kV 0
        have vc1 := BlkV.cell kV 1 rfl
        have vz1 := BlkV.frozen kV 1
        go_wp2_with fail
        replace kV := kV.drew
        replace hF := hF.drew
        clear vc0 vz0 vc1 vz1
        have vc0 := BlkV.cell kV 0 rfl
        have vz0 := BlkV.frozen kV 0
        have vc1 := BlkV.cell kV 1 rfl
        have vz1 := BlkV.frozen kV 1
        refine wp_region_held_drew (S := fun w' => w'.cell? ⟨w.heap.size, 0, none⟩ = some (.int .u64 (a)) ∧ w'.cell? ⟨w.heap.size, 1, none⟩ = some (.int .u64 (b))) (by kernel_rfl) ⟨by with_reducible assumption, by with_reducible assumption⟩ (fun hHeld => ?_)
        refine wpAnyH_take (i := 0) (oi := ?oi9_0) (v := ?vv9_0) ?hi9_0 (by kernel_rfl) (by kernel_rfl) (by kernel_rfl) ?hq9_0 ?hy9_0 hHeld ?rest9_0
        case hi9_0 => (simp only [List.getElem?_toArray, List.getElem?_cons_succ, List.getElem?_cons_zero]; rfl)
        case hq9_0 => exact fun _ _ _ h => h
        case hy9_0 =>
          refine Or.inl ⟨by rfl, ?_⟩
          intro wS hSw
          try dsimp only at hSw
          obtain ⟨q0, q1⟩ := hSw
          go_simp
          try with_reducible rfl
        simp only [Act.put, List.setIfInBounds_toArray, List.set_cons_zero, List.set_cons_succ]
        refine wpAnyH_take (i := 1) (oi := ?oi10_1) (v := ?vv10_1) ?hi10_1 (by kernel_rfl) (by kernel_rfl) (by kernel_rfl) ?hq10_1 ?hy10_1 hHeld ?rest10_1
        case hi10_1 => (simp only [List.getElem?_toArray, List.getElem?_cons_succ, List.getElem?_cons_zero]; rfl)
        case hq10_1 => exact fun _ _ _ h => h
        case hy10_1 =>
          refine Or.inl ⟨by rfl, ?_⟩
          intro wS hSw
          try dsimp only at hSw
          obtain ⟨q0, q1⟩ := hSw
          go_simp
          try with_reducible rfl
        simp only [Act.put, List.setIfInBounds_toArray, List.set_cons_zero, List.set_cons_succ]
        refine wpAnyH_take (i := 2) (oi := ?oi11_2) (v := ?vv11_2) ?hi11_2 (by kernel_rfl) (by kernel_rfl) (by kernel_rfl) ?hq11_2 ?hy11_2 hHeld ?rest11_2
        case hi11_2 => (simp only [List.getElem?_toArray, List.getElem?_cons_succ, List.getElem?_cons_zero]; rfl)
        case hq11_2 => exact fun _ _ _ h => h
        case hy11_2 =>
          refine Or.inl ⟨by rfl, ?_⟩
          intro wS hSw
          try dsimp only at hSw
          obtain ⟨q0, q1⟩ := hSw
          go_simp
          try with_reducible rfl
        simp only [Act.put, List.setIfInBounds_toArray, List.set_cons_zero, List.set_cons_succ]
        refine wpAnyH_take (i := 3) (oi := ?oi12_3) (v := ?vv12_3) ?hi12_3 (by kernel_rfl) (by kernel_rfl) (by kernel_rfl) ?hq12_3 ?hy12_3 hHeld ?rest12_3
        case hi12_3 => (simp only [List.getElem?_toArray, List.getElem?_cons_succ, List.getElem?_cons_zero]; rfl)
        case hq12_3 => exact fun _ _ _ h => h
        case hy12_3 =>
          refine Or.inl ⟨by rfl, ?_⟩
          intro wS hSw
          try dsimp only at hSw
          obtain ⟨q0, q1⟩ := hSw
          go_simp
          try with_reducible rfl
        simp only [Act.put, List.setIfInBounds_toArray, List.set_cons_zero, List.set_cons_succ]
        refine wpAnyH_take (i := 4) (oi := ?oi13_4) (v := ?vv13_4) ?hi13_4 (by kernel_rfl) (by kernel_rfl) (by kernel_rfl) ?hq13_4 ?hy13_4 hHeld ?rest13_4
        case hi13_4 => (simp only [List.getElem?_toArray, List.getElem?_cons_succ, List.getElem?_cons_zero]; rfl)
        case hq13_4 => exact fun _ _ _ h => h
        case hy13_4 =>
          refine Or.inl ⟨by rfl, ?_⟩
          intro wS hSw
          try dsimp only at hSw
          obtain ⟨q0, q1⟩ := hSw
          go_simp
          try with_reducible rfl
        simp only [Act.put, List.setIfInBounds_toArray, List.set_cons_zero, List.set_cons_succ]
        refine wpAnyH_take (i := 5) (oi := ?oi14_5) (v := ?vv14_5) ?hi14_5 (by kernel_rfl) (by kernel_rfl) (by kernel_rfl) ?hq14_5 ?hy14_5 hHeld ?rest14_5
        case hi14_5 => (simp only [List.getElem?_toArray, List.getElem?_cons_succ, List.getElem?_cons_zero]; rfl)
        case hq14_5 => exact fun _ _ _ h => h
        case hy14_5 =>
          refine Or.inl ⟨by rfl, ?_⟩
          intro wS hSw
          try dsimp only at hSw
          obtain ⟨q0, q1⟩ := hSw
          go_simp
          try with_reducible rfl
        simp only [Act.put, List.setIfInBounds_toArray, List.set_cons_zero, List.set_cons_succ]
        refine wpAnyH_take (i := 6) (oi := ?oi15_6) (v := ?vv15_6) ?hi15_6 (by kernel_rfl) (by kernel_rfl) (by kernel_rfl) ?hq15_6 ?hy15_6 hHeld ?rest15_6
        case hi15_6 => (simp only [List.getElem?_toArray, List.getElem?_cons_succ, List.getElem?_cons_zero]; rfl)
        case hq15_6 => exact fun _ _ _ h => h
        case hy15_6 =>
          refine Or.inl ⟨by rfl, ?_⟩
          intro wS hSw
          try dsimp only at hSw
          obtain ⟨q0, q1⟩ := hSw
          go_simp
          try with_reducible rfl
        simp only [Act.put, List.setIfInBounds_toArray, List.set_cons_zero, List.set_cons_succ]
        refine wpAnyH_ready (rs := [7]) (by kernel_rfl) (by simp) ?_
        refine AllReadyH.cons rfl (fun K hK => ?_) AllReadyH.nil
        go_simp
        refine (pr _).mono ?_
        rintro e w11 ⟨u, rfl, hu, hf11⟩
        have HU := hid hu
        obtain ⟨ua, ub, rfl, -, -, -⟩ := hu
        replace kV := kV.fwd hf11
        replace hF := hF.trans hf11
        clear hf11
        clear vc0 vz0 vc1 vz1
        have vc0 := BlkV.cell kV 0 rfl
        have vz0 := BlkV.frozen kV 0
        have vc1 := BlkV.cell kV 1 rfl
        have vz1 := BlkV.frozen kV 1
        go_wp2_with fail
        clear hHeld
        refine hK.out _ _ ⟨by with_reducible assumption, by with_reducible assumption⟩ (fun hHeld => ?_)
        clear hK K
        try simp only [Act.put, List.setIfInBounds_toArray, List.set_cons_zero, List.set_cons_succ]
        refine wpAnyH_ready (rs := [8]) (by kernel_rfl) (by simp) ?_
        refine AllReadyH.cons rfl (fun K hK => ?_) AllReadyH.nil
        go_simp
        refine (le _ _ HU.out).mono ?_
        rintro e w12 ⟨rfl, hf12⟩
        clear HU
        replace kV := kV.fwd hf12
        replace hF := hF.trans hf12
        clear hf12
        clear vc0 vz0 vc1 vz1
        have vc0 := BlkV.cell kV 0 rfl
        have vz0 := BlkV.frozen kV 0
        have vc1 := BlkV.cell kV 1 rfl
        have vz1 := BlkV.frozen kV 1
        go_wp2_with fail
        clear hHeld
        refine hK.out _ _ ⟨by with_reducible assumption, by with_reducible assumption⟩ (fun hHeld => ?_)
        clear hK K
        try simp only [Act.put, List.setIfInBounds_toArray, List.set_cons_zero, List.set_cons_succ]
        refine wpAnyH_take (i := 9) (oi := ?oi16_9) (v := ?vv16_9) ?hi16_9 (by kernel_rfl) (by kernel_rfl) (by kernel_rfl) ?hq16_9 ?hy16_9 hHeld ?rest16_9
        case hi16_9 => (simp only [List.getElem?_toArray, List.getElem?_cons_succ, List.getElem?_cons_zero]; rfl)
        case hq16_9 => exact fun _ _ _ h => h
        case hy16_9 =>
          refine Or.inl ⟨by rfl, ?_⟩
          intro wS hSw
          try dsimp only at hSw
          obtain ⟨q0, q1⟩ := hSw
          go_simp
          try with_reducible rfl
        simp only [Act.put, List.setIfInBounds_toArray, List.set_cons_zero, List.set_cons_succ]
        refine wpAnyH_done (by kernel_rfl) ?_ _
        go_wp2
        go_roundw
        all_goals first
          | (show _ < _; simp [intOf] <;> omega)
          | exact ⟨i - 1, R, β / 2, rfl, by first | go_num | (congr 1; omega) | rfl, HI, kV, hF⟩
end Go.Proofs.YtcfhajnboamnnaaDoor

namespace Go.Proofs.YtcfhajnboamnnaaDoor
open Go.RowKit
set_option linter.unusedVariables false
set_option linter.unusedSimpArgs false

/-- The greatest number whose square is not greater. -/
def sqN (n : Nat) : Nat := n.rec 0 (fun k r => if (r + 1) * (r + 1) ≤ k + 1 then r + 1 else r)
theorem sqN_spec (n : Nat) : sqN n * sqN n ≤ n ∧ n < (sqN n + 1) * (sqN n + 1) := by
  induction n with
  | zero => exact ⟨by decide, by decide⟩
  | succ k ih =>
    have e : sqN (k + 1) = if (sqN k + 1) * (sqN k + 1) ≤ k + 1 then sqN k + 1 else sqN k := rfl
    rw [e]
    by_cases c : (sqN k + 1) * (sqN k + 1) ≤ k + 1
    · rw [if_pos c]
      refine ⟨c, ?_⟩
      have : (sqN k + 1 + 1) * (sqN k + 1 + 1) = (sqN k + 1) * (sqN k + 1) + (2 * sqN k + 3) := by grind
      omega
    · rw [if_neg c]
      exact ⟨by omega, by omega⟩
theorem sqN_only {n r : Nat} (h1 : r * r ≤ n) (h2 : n < (r + 1) * (r + 1)) : r = sqN n := by
  obtain ⟨g1, g2⟩ := sqN_spec n
  have a : ¬ r < sqN n := fun c => by
    have := Nat.mul_le_mul (show r + 1 ≤ sqN n by omega) (show r + 1 ≤ sqN n by omega)
    omega
  have b : ¬ sqN n < r := fun c => by
    have := Nat.mul_le_mul (show sqN n + 1 ≤ r by omega) (show sqN n + 1 ≤ r by omega)
    omega
  omega
/-- Lifted to an even exponent: by how much; the root. -/
def rtR (n : Nat) (x : Int) : Nat := if (x - (lsh n 0 : Int)) % 2 = 0 then 0 else 1
def rtL (n : Nat) (x : Int) : Nat := n * 2 ^ lsh n (rtR n x)
def rtX (n : Nat) (x : Int) : Int := x - (lsh n (rtR n x) : Int)
def rootV (n : Nat) (x : Int) : Bool × Bool × Nat × Int := (false, false, sqN (rtL n x) * 18446744073709551616 + stk (rtL n x - sqN (rtL n x) * sqN (rtL n x)), (rtX n x) / 2 - 64)

end Go.Proofs.YtcfhajnboamnnaaDoor
