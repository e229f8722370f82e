/- Contract: points brought into the order of their bits read backwards. -/
import Derived.Test.YtimlpehgafjkpaaXNT8
import Derived.Deep.Cut
namespace Go.Proofs.Ytimlpehgafjkpaa
open Go.RowKit Go.Maps
set_option linter.unusedVariables false
set_option linter.unusedSimpArgs false

theorem blen_pow (m : Nat) : blen (2 ^ m - 1) = m := by
  have hp := Nat.two_pow_pos m
  have h1 := (blen_le_iff (2 ^ m - 1) m).2 (by omega)
  rcases Nat.lt_or_ge (blen (2 ^ m - 1)) m with h | h
  · have h2 := (blen_le_iff (2 ^ m - 1) (m - 1)).1 (by omega)
    have e : 2 ^ m = 2 * 2 ^ (m - 1) := by rw [← Nat.pow_succ']; congr 1; omega
    have hq := Nat.two_pow_pos (m - 1)
    omega
  · omega

/-- What the points are when the first k have been looked at. -/
def Scat (m k : Nat) (L M : List Nat) : Prop := ∀ i, i < 1024 → M.getD i 0 = if i < 2 ^ m ∧ (i < k ∨ rev m i < k) then L.getD (rev m i) 0 else L.getD i 0

theorem getD_set_eq (L : List Nat) (i x : Nat) (h : i < L.length) : (L.set i x).getD i 0 = x := by
  simp [List.getD_eq_getElem?_getD, h]
theorem getD_set_ne (L : List Nat) (i j x : Nat) (h : i ≠ j) : (L.set i x).getD j 0 = L.getD j 0 := by
  simp [List.getD_eq_getElem?_getD, List.getElem?_set_ne h]

theorem Scat.start (m : Nat) (L : List Nat) : Scat m 0 L L := by
  intro i hi
  rw [if_neg (by omega)]
theorem Scat.stay {m k : Nat} {L M : List Nat} (h : Scat m k L M) (hm : m ≤ 10) (hk : k < 2 ^ m) (hr : rev m k ≤ k) : Scat m (k + 1) L M := by
  intro i hi
  rw [h i hi]
  by_cases hi2 : i < 2 ^ m
  · by_cases h1 : i < k ∨ rev m i < k
    · rw [if_pos ⟨hi2, h1⟩, if_pos ⟨hi2, by omega⟩]
    · rw [if_neg (fun hh => h1 hh.2)]
      by_cases h2 : i < k + 1 ∨ rev m i < k + 1
      · rw [if_pos ⟨hi2, h2⟩]
        have hrr := rev_rev hm hi2
        have hik : rev m i = i := by
          rcases h2 with h2 | h2
          · have : i = k := by omega
            subst this
            omega
          · have e : rev m i = k := by omega
            rw [e] at hrr
            omega
        rw [hik]
      · rw [if_neg (fun hh => h2 hh.2)]
  · rw [if_neg (fun hh => hi2 hh.1), if_neg (fun hh => hi2 hh.1)]
theorem Scat.swap {m k : Nat} {L M : List Nat} (h : Scat m k L M) (hm : m ≤ 10) (hl : M.length = 1024) (hk : k < 2 ^ m) (hr : k < rev m k) : Scat m (k + 1) L ((M.set k (M.getD (rev m k) 0)).set (rev m k) (M.getD k 0)) := by
  have hlt := rev_lt m k
  have hp : 2 ^ m ≤ 2 ^ 10 := Nat.pow_le_pow_right (by omega) hm
  have hrk := rev_rev hm hk
  have hk1 : M.getD k 0 = L.getD k 0 := by rw [h k (by omega), if_neg (by omega)]
  have hk2 : M.getD (rev m k) 0 = L.getD (rev m k) 0 := by rw [h _ (by omega), hrk, if_neg (by omega)]
  rw [hk1, hk2]
  intro i hi
  by_cases e1 : i = rev m k
  · rw [e1, getD_set_eq _ _ _ (by rw [List.length_set, hl]; omega), hrk, if_pos ⟨hlt, .inr (by omega)⟩]
  · rw [getD_set_ne _ _ _ _ (fun e => e1 e.symm)]
    by_cases e2 : i = k
    · rw [e2, getD_set_eq _ _ _ (by rw [hl]; omega), if_pos ⟨hk, .inl (by omega)⟩]
    · rw [getD_set_ne _ _ _ _ (fun e => e2 e.symm), h i hi]
      by_cases hi2 : i < 2 ^ m
      · have hne : rev m i ≠ k := by
          intro e
          have := rev_rev hm hi2
          rw [e] at this
          omega
        by_cases h1 : i < k ∨ rev m i < k
        · rw [if_pos ⟨hi2, h1⟩, if_pos ⟨hi2, by omega⟩]
        · rw [if_neg (fun hh => h1 hh.2), if_neg (fun hh => by omega)]
      · rw [if_neg (fun hh => hi2 hh.1), if_neg (fun hh => hi2 hh.1)]

set_option maxHeartbeats 400000 in
theorem scatter_any {w : World} {g : Nat} {L : List Nat} (m : Nat) (hm : m ≤ 10) (hA : Arr w g L) :
    Calls Try.prog 32 #[.pointer (some ⟨g, 0, none⟩), .int .i64 ((2 ^ m : Nat) : Int)] w fun e w' => e = .returned (.tuple #[]) ∧ ∃ M, Arr w' g M ∧ Only g w w' ∧ Scat m (2 ^ m) L M := by
  have hp : 2 ^ m ≤ 2 ^ 10 := Nat.pow_le_pow_right (by omega) hm
  have hp0 := Nat.two_pow_pos m
  have hbl := blen_pow m
  have hall : Hid (∀ k : Nat, k < 2 ^ m → rvI (k : Int) / 2 ^ (64 - m) = (rev m k : Int) ∧ rev m k < 2 ^ m) := hid fun k hk => ⟨rv_rev hm hk, rev_lt m k⟩
  obtain ⟨n, hn⟩ : ∃ n, n = 2 ^ m := ⟨_, rfl⟩
  have HN := hid hn
  rw [← hn] at hp hp0 hbl hall ⊢
  have HB := hid hbl
  have HAr := hid hA
  clear hn hbl hA
  go_enter Try.func32, Try.ntmps32
  go_wp2_with fail
  have e0 : (n : Int) - 1 = ((n - 1 : Nat) : Int) := by omega
  try rw [e0]
  refine (Len_any _ (n - 1) (by omega)).mono ?_
  rintro e w1 ⟨rfl, rfl⟩
  rw [HB.out]
  obtain ⟨u, hu⟩ : ∃ u, u = 64 - m := ⟨_, rfl⟩
  have e1 : (64 : Int) - (m : Int) = (u : Int) := by omega
  rw [← hu] at hall
  have hu1 : 54 ≤ u := by omega
  have hu2 : u ≤ 64 := by omega
  clear hu
  go_wp2_with fail
  go_loopw [13] (fun i wr => ∃ (k : Nat) (M : List Nat), k ≤ n ∧ i = .int .i64 k ∧ Arr wr g M ∧ Only g w1 wr ∧ Scat m k L M) (fun i _ => n - (intOf i).toNat)
  case atStart => exact ⟨0, L, by omega, rfl, HAr.out, Only.refl _ _, Scat.start m L⟩
  case round =>
    obtain ⟨k, M, hk, rfl, hM, hO, hS⟩ := hrel
    have HM := hid hM
    have HO := hid hO
    have HS := hid hS
    clear hM hO hS
    by_cases hlt : k < n
    · obtain ⟨hr1, hr2⟩ := hall.out k hlt
      have hnl : M.length = 1024 := HM.out.2.1
      have hst := hid (HS.out.stay hm (by rw [← HN.out]; exact hlt))
      have hsw := hid (HS.out.swap hm hnl (by rw [← HN.out]; exact hlt))
      have hfo := hid (HM.out.frozen)
      have hck := hid (HM.out.cell k (by omega))
      have hcr := hid (HM.out.cell (rev m k) (by omega))
      have hok1 := HM.out.ok k
      have hok2 := HM.out.ok (rev m k)
      obtain ⟨r, hr⟩ : ∃ r, r = rev m k := ⟨_, rfl⟩
      rw [← hr] at hr1 hr2 hst hsw hcr hok2
      obtain ⟨x, hx⟩ : ∃ x, x = M.getD k 0 := ⟨_, rfl⟩
      obtain ⟨y, hy⟩ : ∃ y, y = M.getD r 0 := ⟨_, rfl⟩
      rw [← hx] at hck hsw hok1
      rw [← hy] at hcr hsw hok2
      have HR := hid hr
      clear hr hx hy hnl
      go_wp2_with fail
      refine (Reverse_any _ _).mono ?_
      rintro e w2 ⟨rfl, rfl⟩
      generalize rvI ↑k = R at *
      go_upto_region 5 with fail
      by_cases hkr : k < r
      · go_upto_region 6 with fail
        have c1 := hck.out
        have c2 := hcr.out
        have f1 := hfo.out k
        have f2 := hfo.out r
        have hA1 := hid ((HM.out.set k y hok2).set r x hok1)
        have hA2 := hid ((HM.out.set r x hok1).set k y hok2)
        have hne : k ≠ r := by omega
        have hb1 : k < 1024 := by omega
        have hb2 : r < 1024 := by omega
        clear e0 e1 hu1 hu2 hr2
        have hO2 := hid (((HO.out.setv k (.int .u32 (y : Int))).setv r (.int .u32 (x : Int))).drew)
        go_region
        go_wp2_with fail
        go_roundw
        case rel => exact ⟨k + 1, _, by omega, by go_num, hA1.out, hO2.out, hsw.out hkr⟩
        case measure => simp [intOf]; omega
      · go_wp2_with fail
        go_roundw
        case rel => exact ⟨k + 1, M, by omega, by go_num, HM.out, HO.out, hst.out (by omega)⟩
        case measure => simp [intOf]; omega
    · go_wp2_with fail
      go_returns
      obtain rfl : k = n := by omega
      exact ⟨rfl, M, HM.out, HO.out, HS.out⟩
end Go.Proofs.Ytimlpehgafjkpaa
