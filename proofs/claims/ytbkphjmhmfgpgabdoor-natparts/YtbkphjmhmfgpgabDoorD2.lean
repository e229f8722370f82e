/- Contract of nat's guess. -/
import Derived.Test.YtbkphjmhmfgpgabDoorD1
namespace Go.Proofs.YtbkphjmhmfgpgabDoor
open Go.RowKit
set_option linter.unusedVariables false

/-- A digit that the second limb refutes is too great. -/
theorem guess_less {V D d v1 v0 top r u0 P lo dl : Nat} (hV : V = (top * 4294967296 + u0) * P + lo) (hlo : lo < P) (hD : D = (v1 * 4294967296 + v0) * P + dl) (hr : d * v1 + r = top) (h : r * 4294967296 + u0 < d * v0) : V < d * D := by
  have h1 : top * 4294967296 + u0 + 1 ≤ d * (v1 * 4294967296 + v0) := by
    rw [Nat.mul_add, ← Nat.mul_assoc]; omega
  have h2 : (top * 4294967296 + u0 + 1) * P ≤ d * (v1 * 4294967296 + v0) * P := Nat.mul_le_mul_right _ h1
  have h3 : d * D = d * (v1 * 4294967296 + v0) * P + d * dl := by rw [hD, Nat.mul_add, Nat.mul_assoc]
  have h4 : (top * 4294967296 + u0 + 1) * P = (top * 4294967296 + u0) * P + P := by rw [Nat.add_mul, Nat.one_mul]
  omega

/-- A digit that it doesn't refute is right, or one too great. -/
theorem guess_near {V D d v1 v0 top r u0 P lo dl : Nat} (hV : V = (top * 4294967296 + u0) * P + lo) (hD : D = (v1 * 4294967296 + v0) * P + dl) (hdl : dl < P) (hr : d * v1 + r = top) (h : d * v0 ≤ r * 4294967296 + u0)
    (hd : d < 4294967296) (hv : 0 < v1) : d * D < V + D := by
  have h1 : d * (v1 * 4294967296 + v0) ≤ top * 4294967296 + u0 := by
    rw [Nat.mul_add, ← Nat.mul_assoc]; omega
  have h2 : d * (v1 * 4294967296 + v0) * P ≤ (top * 4294967296 + u0) * P := Nat.mul_le_mul_right _ h1
  have h3 : d * D = d * (v1 * 4294967296 + v0) * P + d * dl := by rw [hD, Nat.mul_add, Nat.mul_assoc]
  have h4 : d * dl ≤ d * P := Nat.mul_le_mul_left _ (by omega)
  have h5 : d * P + P ≤ 4294967296 * P := by
    have : (d + 1) * P ≤ 4294967296 * P := Nat.mul_le_mul_right _ (by omega)
    rwa [Nat.add_mul, Nat.one_mul] at this
  have h6 : 4294967296 * P ≤ (v1 * 4294967296 + v0) * P := Nat.mul_le_mul_right _ (by omega)
  omega

/-- The first guess is not too small. -/
theorem guess_start {V D v1 v0 top u0 P lo dl : Nat} (hV : V = (top * 4294967296 + u0) * P + lo) (hlo : lo < P) (hu : u0 < 4294967296) (hD : D = (v1 * 4294967296 + v0) * P + dl) (hv : 0 < v1) : V < (top / v1 + 1) * D := by
  have h0 : top + 1 ≤ (top / v1 + 1) * v1 := by
    have h1 := Nat.div_add_mod top v1
    have h2 := Nat.mod_lt top hv
    rw [Nat.add_mul, Nat.one_mul, Nat.mul_comm]; omega
  generalize top / v1 + 1 = d at *
  have h1 : (top * 4294967296 + u0 + 1) ≤ d * (v1 * 4294967296 + v0) := by
    have : (top + 1) * 4294967296 ≤ d * v1 * 4294967296 := Nat.mul_le_mul_right _ h0
    rw [Nat.mul_add, ← Nat.mul_assoc]; omega
  have h2 : (top * 4294967296 + u0 + 1) * P ≤ d * (v1 * 4294967296 + v0) * P := Nat.mul_le_mul_right _ h1
  have h3 : d * D = d * (v1 * 4294967296 + v0) * P + d * dl := by rw [hD, Nat.mul_add, Nat.mul_assoc]
  have h4 : (top * 4294967296 + u0 + 1) * P = (top * 4294967296 + u0) * P + P := by rw [Nat.add_mul, Nat.one_mul]
  omega

/-- The topmost limb is at most the divisor's. -/
theorem guess_top {V D v1 v0 u2 u1 u0 P lo dl : Nat} (hV : V = ((u2 * 4294967296 + u1) * 4294967296 + u0) * P + lo) (hD : D = (v1 * 4294967296 + v0) * P + dl) (hdl : dl < P) (hv0 : v0 < 4294967296) (h : V < 4294967296 * D) : u2 ≤ v1 := by
  rcases Nat.lt_or_ge v1 u2 with hlt | hge
  · exfalso
    have h1 : D < (v1 * 4294967296 + v0 + 1) * P := by rw [hD, Nat.add_mul (v1 * 4294967296 + v0), Nat.one_mul]; omega
    have h2 : (v1 * 4294967296 + v0 + 1) * P ≤ (u2 * 4294967296) * P := Nat.mul_le_mul_right _ (by omega)
    have h3 : 4294967296 * ((u2 * 4294967296) * P) ≤ ((u2 * 4294967296 + u1) * 4294967296 + u0) * P := by
      rw [← Nat.mul_assoc]; exact Nat.mul_le_mul_right _ (by omega)
    omega
  · exact hge

theorem u64_le {n : Nat} (h : n < 18446744073709551616) : (n : Int) ≤ 18446744073709551615 := by omega

set_option maxHeartbeats 4000000 in
theorem guess_raw {w : World} {pb po pc db dof dc n u0 u1 u2 v0 v1 : Nat} (hn : 2 ≤ n) (hn2 : n ≤ 1000000000) (hpc : n + 1 ≤ pc) (hpm : pc ≤ maxLen) (hdc : n ≤ dc) (hdm : dc ≤ maxLen)
    (c0 : w.cell? ⟨pb, po + (n - 2), none⟩ = some (.int .u32 (u0 : Int))) (c1 : w.cell? ⟨pb, po + (n - 1), none⟩ = some (.int .u32 (u1 : Int))) (c2 : w.cell? ⟨pb, po + n, none⟩ = some (.int .u32 (u2 : Int)))
    (d0 : w.cell? ⟨db, dof + (n - 2), none⟩ = some (.int .u32 (v0 : Int))) (d1 : w.cell? ⟨db, dof + (n - 1), none⟩ = some (.int .u32 (v1 : Int)))
    (hu0 : u0 < 4294967296) (hu1 : u1 < 4294967296) (hu2 : u2 < 4294967296) (hv0 : v0 < 4294967296) (hv1 : v1 < 4294967296) (hv : 0 < v1) (hle : u2 ≤ v1)
    (I : Nat → Prop) (h0 : I ((u2 * 4294967296 + u1) / v1)) (hbig : ∀ d, I (d + 1) → 4294967296 ≤ d + 1 → I d)
    (hless : ∀ d r, I (d + 1) → (d + 1) * v1 + r = u2 * 4294967296 + u1 → r * 4294967296 + u0 < (d + 1) * v0 → I d) :
    Calls Tryd.prog 74 #[.slice (some ⟨pb, po, none⟩) (n + 1) pc, .slice (some ⟨db, dof, none⟩) n dc] w fun e w' =>
      ∃ d r : Nat, e = .returned (.int .u32 d) ∧ d < 4294967296 ∧ I d ∧ d * v1 + r = u2 * 4294967296 + u1 ∧ d * v0 ≤ r * 4294967296 + u0 ∧ Fwd w w' := by
  unfold maxLen at hpm hdm
  obtain ⟨top, htop⟩ : ∃ top, top = u2 * 4294967296 + u1 := ⟨_, rfl⟩
  have hor := or_join u2 u1 hu2 hu1
  rw [← htop] at h0 hless hor ⊢
  have HI0 := hid h0
  have HB := hid hbig
  have HLS := hid hless
  clear h0 hbig hless
  have htb : top < 18446744073709551616 := by omega
  have htb2 := u64_le htb
  have HT := hid htop
  have HTB := hid htb
  clear htop htb
  have hv1i : ((v1 : Int) == 0) = false := by simp; omega
  have HF0 := hid (Fwd.refl w)
  go_enter Tryd.func74, Tryd.ntmps74
  go_wp2_with fail
  go_quiet (fail)
  go_wp2_with fail
  have hf1 := HF0.out.drewN nq
  have c01 := hf1.cell c0
  have c11 := hf1.cell c1
  have c21 := hf1.cell c2
  clear c0 c1 c2 d0 d1 HF0
  generalize w.drewN nq = wq at *
  go_quiet (fail)
  go_wp2_with fail
  have hf2 := hf1.drewN nq
  have c02 := ((Fwd.refl wq).drewN nq).cell c01
  clear c01 c11 c21 hf1
  generalize wq.drewN nq = w2 at *
  have hd0 : 0 ≤ (top : Int) / (v1 : Int) := by rw [← Int.natCast_ediv]; exact Int.natCast_nonneg _
  have hd1 : (top : Int) / (v1 : Int) ≤ 18446744073709551615 := by
    rw [← Int.natCast_ediv]
    have := Nat.div_le_self top v1
    omega
  go_quiet (fail)
  go_wp2_with fail
  have hf3 := hf2.drewN nq
  have c03 := ((Fwd.refl w2).drewN nq).cell c02
  clear c02 hf2
  generalize w2.drewN nq = w3 at *
  have C := hid c03
  clear c03
  go_loopw [9, 10] (fun x y wr => ∃ d r : Nat, x = .int .u64 d ∧ y = .int .u64 r ∧ r < 4294967296 ∧ (d : Int) ≤ 18446744073709551615 ∧ I d ∧ d * v1 + r = top ∧ Fwd w3 wr) (fun x _ _ => (intOf x).toNat)
  case atStart =>
    refine ⟨top / v1, top % v1, by rw [Int.natCast_ediv], by rw [Int.natCast_emod], ?_, ?_, HI0.out, ?_, Fwd.refl _⟩
    · have := Nat.mod_lt top hv; omega
    · rw [Int.natCast_ediv]; exact hd1
    · rw [Nat.mul_comm]; exact Nat.div_add_mod _ _
  case round =>
    obtain ⟨d, r, rfl, rfl, hr, hd, hI, heq, hfw⟩ := hrel
    have H := hid (And.intro hI (And.intro heq hfw))
    clear hI heq
    have hc := hfw.cell C.out
    clear hfw
    have hor2 := or_join r u0 hr hu0
    obtain ⟨s, hs⟩ : ∃ s, s = r * 4294967296 + u0 := ⟨_, rfl⟩
    rw [← hs] at hor2
    have HS := hid hs
    have hsb : (s : Int) ≤ 18446744073709551615 := by omega
    clear hs
    have HD : Hid (4294967296 ≤ r + v1 → 1 ≤ d → d ≤ 4294967296) := by
      intro h1 h2
      rcases Nat.lt_or_ge 4294967296 d with hlt | hge
      · exfalso
        have e := H.out.2.1
        rw [HT.out] at e
        have e2 : 4294967297 * v1 ≤ d * v1 := Nat.mul_le_mul_right _ (by omega)
        have e3 : u2 * 4294967296 ≤ v1 * 4294967296 := Nat.mul_le_mul_right _ hle
        omega
      · exact hge
    by_cases hbig : 4294967296 ≤ d
    · have hq : ((d : Int) / 4294967296 != 0) = true := by simp; omega
      by_cases hbr : 4294967296 ≤ r + v1
      · have hq2 : (((r : Int) + v1) / 4294967296 != 0) = true := by simp; omega
        have HQ := hid hbig
        have hd2 := HD.out hbr (by omega)
        have hd1 : 1 ≤ d := by omega
        have HR := hid hbr
        clear hbig hbr
        go_wp2
        go_ret
        obtain ⟨hI, heq, hfw⟩ := H.out
        obtain ⟨k, rfl⟩ : ∃ k, d = k + 1 := ⟨d - 1, by omega⟩
        have e := mul_bd (m := k) (y := v0) (by omega) hv0
        refine ⟨k, r + v1, ret_int (by omega), by omega, HB.out k hI HQ.out, by rw [← heq, Nat.add_mul, Nat.one_mul]; omega, by have := HR.out; omega, hf3.trans hfw⟩
      · have hq2 : (((r : Int) + v1) / 4294967296 != 0) = false := by simp; omega
        have HQ := hid hbig
        have HR := hid hbr
        have hd1 : 1 ≤ d := by omega
        clear hbig hbr
        go_wp2
        go_roundw
        case rel =>
          obtain ⟨hI, heq, hfw⟩ := H.out
          obtain ⟨k, rfl⟩ : ∃ k, d = k + 1 := ⟨d - 1, by omega⟩
          exact ⟨k, r + v1, by go_num, by go_num, by have := HR.out; omega, by omega, HB.out k hI HQ.out, by rw [← heq, Nat.add_mul, Nat.one_mul]; omega, hfw⟩
        case measure => simp [intOf] <;> omega
    · have hq : ((d : Int) / 4294967296 != 0) = false := by simp; omega
      have hdb : d < 4294967296 := by omega
      obtain ⟨hp2, hp3, hp4⟩ := mul_bd hdb hv0
      by_cases hcmp : s < d * v0
      · have hcmp2 : (s : Int) < (d : Int) * (v0 : Int) := by rw [← Int.natCast_mul]; omega
        have HC := hid hcmp
        clear hcmp
        have hd1 : 1 ≤ d := by
          rcases Nat.eq_zero_or_pos d with rfl | h
          · simp at hcmp2; omega
          · exact h
        by_cases hbr : 4294967296 ≤ r + v1
        · have hq2 : (((r : Int) + v1) / 4294967296 != 0) = true := by simp; omega
          have HR := hid hbr
          clear hbr
          go_wp2
          go_ret
          obtain ⟨hI, heq, hfw⟩ := H.out
          obtain ⟨k, rfl⟩ : ∃ k, d = k + 1 := ⟨d - 1, by omega⟩
          have e := mul_bd (m := k) (y := v0) (by omega) hv0
          refine ⟨k, r + v1, ret_int (by omega), by omega, HLS.out k r hI heq (by rw [← HS.out]; exact HC.out), by rw [← heq, Nat.add_mul, Nat.one_mul]; omega, by have := HR.out; omega, hf3.trans hfw⟩
        · have hq2 : (((r : Int) + v1) / 4294967296 != 0) = false := by simp; omega
          have HR := hid hbr
          clear hbr
          go_wp2
          go_roundw
          case rel =>
            obtain ⟨hI, heq, hfw⟩ := H.out
            obtain ⟨k, rfl⟩ : ∃ k, d = k + 1 := ⟨d - 1, by omega⟩
            exact ⟨k, r + v1, by go_num, by go_num, by have := HR.out; omega, by omega, HLS.out k r hI heq (by rw [← HS.out]; exact HC.out), by rw [← heq, Nat.add_mul, Nat.one_mul]; omega, hfw⟩
          case measure => simp [intOf] <;> omega
      · have hcmp2 : (d : Int) * (v0 : Int) ≤ (s : Int) := by rw [← Int.natCast_mul]; omega
        have HC := hid hcmp
        clear hcmp
        go_wp2
        go_ret
        obtain ⟨hI, heq, hfw⟩ := H.out
        exact ⟨d, r, ret_int (by omega), hdb, hI, heq, by rw [← HS.out]; have := HC.out; omega, hf3.trans hfw⟩

theorem val_top3 {xs : List Nat} {p : Nat} (h : xs.length = p + 3) : val xs = ((xs.getD (p + 2) 0 * 4294967296 + xs.getD (p + 1) 0) * 4294967296 + xs.getD p 0) * 4294967296 ^ p + val (xs.take p) := by
  rw [val_split xs p (by omega), val_drop_cons (k := p) (by omega), val_drop_cons (k := p + 1) (by omega), val_drop_cons (k := p + 2) (by omega), List.drop_eq_nil_of_le (by omega), val]
  grind
theorem val_top2 {xs : List Nat} {p : Nat} (h : xs.length = p + 2) : val xs = (xs.getD (p + 1) 0 * 4294967296 + xs.getD p 0) * 4294967296 ^ p + val (xs.take p) := by
  rw [val_split xs p (by omega), val_drop_cons (k := p) (by omega), val_drop_cons (k := p + 1) (by omega), List.drop_eq_nil_of_le (by omega), val]
  grind

/-- guess tells the digit, or one more. -/
theorem guess_any {w : World} {v u : Value} {xs ys : List Nat} {p : Nat} (hx : Rd w v xs) (hy : Rd w u ys) (hl : xs.length = p + 3) (hm : ys.length = p + 2) (hp : p ≤ 900000000) (htop : 0 < ys.getD (p + 1) 0) (hlt : val xs < 4294967296 * val ys) :
    Calls Tryd.prog 74 #[v, u] w fun e w' => ∃ d : Nat, e = .returned (.int .u32 d) ∧ d < 4294967296 ∧ val xs < (d + 1) * val ys ∧ d * val ys < val xs + val ys ∧ Fwd w w' := by
  obtain ⟨ao, c1, rfl, hc1, hm1, hok1, hcell1⟩ := hx.parts
  obtain ⟨bo, c2, rfl, hc2, hm2, hok2, hcell2⟩ := hy.parts
  have eV := val_top3 hl
  have eD := val_top2 hm
  have lx := val_take_lt hok1 p
  have ly := val_take_lt hok2 p
  obtain ⟨pb, po, rfl, a0⟩ := hcell1 p (by omega)
  obtain ⟨_, _, e1, a1⟩ := hcell1 (p + 1) (by omega)
  obtain ⟨_, _, e2, a2⟩ := hcell1 (p + 2) (by omega)
  obtain ⟨db, dof, rfl, b0⟩ := hcell2 p (by omega)
  obtain ⟨_, _, e3, b1⟩ := hcell2 (p + 1) (by omega)
  cases e1; cases e2; cases e3
  have bu0 := hok1.getD p
  have bu1 := hok1.getD (p + 1)
  have bu2 := hok1.getD (p + 2)
  have bv0 := hok2.getD p
  have bv1 := hok2.getD (p + 1)
  generalize xs.getD p 0 = u0 at *
  generalize xs.getD (p + 1) 0 = u1 at *
  generalize xs.getD (p + 2) 0 = u2 at *
  generalize ys.getD p 0 = v0 at *
  generalize ys.getD (p + 1) 0 = v1 at *
  have hle := guess_top eV eD ly bv0 hlt
  rw [hl, hm]
  refine (guess_raw (n := p + 2) (by omega) (by omega) (by omega) hm1 (by omega) hm2 a0 a1 a2 b0 b1 bu0 bu1 bu2 bv0 bv1 htop hle (fun d => val xs < (d + 1) * val ys) (guess_start eV lx bu0 eD htop) ?_ ?_).mono ?_
  · intro d h1 h2
    have : 4294967296 * val ys ≤ (d + 1) * val ys := Nat.mul_le_mul_right _ h2
    omega
  · intro d r h1 h2 h3
    exact guess_less eV lx eD h2 h3
  · rintro e w' ⟨d, r, rfl, h1, h2, h3, h4, h5⟩
    exact ⟨d, rfl, h1, h2, guess_near eV eD ly h3 h4 h1 htop, h5⟩

end Go.Proofs.YtbkphjmhmfgpgabDoor
