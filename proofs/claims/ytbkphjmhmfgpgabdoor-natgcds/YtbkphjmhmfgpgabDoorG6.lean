/- Contracts of nat's oneStep and lessen. -/
import Derived.Test.YtbkphjmhmfgpgabDoorG5
namespace Go.Proofs.YtbkphjmhmfgpgabDoor
open Go.RowKit
set_option linter.unusedVariables false

theorem Fwd.toBelow {w w' : World} {base : Nat} (h : Fwd w w') (hb : base ≤ w.heap.size) : Below base w w' := Below.mono h hb

set_option maxHeartbeats 4000000 in
set_option maxRecDepth 20000 in
theorem oneStep_any {w : World} {gx L base : Nat} {xs px ys : List Nat} {vy : Value} (hx : Blk w gx ([] ++ (xs ++ px))) (hxl : xs.length = L) (hL : L ≤ 10000000) (hy : Rd w vy ys) (hyl : ys.length ≤ 10000000) (hy0 : val ys ≠ 0) (hgx : base ≤ gx) :
    Calls Tryd.prog 60 #[.slice (some ⟨gx, 0, none⟩) L L, vy] w fun e w' => ∃ zs : List Nat, e = .returned (.tuple #[vy, .slice (some ⟨gx, 0, none⟩) L L]) ∧ zs.length = L ∧ Blk w' gx ([] ++ (zs ++ px)) ∧ val zs = val xs % val ys ∧ Below base w w' ∧ ∀ b L', b ≠ gx → Blk w b L' → Blk w' b L' := by
  subst hxl
  have hrx : Rd w (.slice (some ⟨gx, 0, none⟩) xs.length xs.length) xs := Blk.rd hx _ (Nat.le_refl _) (le_maxLen (by omega))
  have hxn := nl_val_le hrx.ok
  have hyn := nl_val_le hy.ok
  have hbs : base ≤ w.heap.size := by have := hx.lt; omega
  have HX := hid hx
  have HY0 := hid hy0
  clear hx hy0
  obtain ⟨M, hM⟩ : ∃ M, M = val xs % val ys := ⟨_, rfl⟩
  rw [← hM]
  have HM := hid hM
  clear hM
  go_enter Tryd.func60, Tryd.ntmps60
  go_wp2_with fail
  refine (trim_any hrx).mono ?_
  rintro e w1 ⟨v1, rfl, hn1, _, rfl⟩
  go_wp2_with fail
  refine (trim_any hy).mono ?_
  rintro e w1 ⟨v2, rfl, hn2, _, rfl⟩
  go_wp2_with fail
  refine (divide_any hn1 hn2 (by omega) (by omega) HY0.out).mono ?_
  rintro e w1 ⟨q, r, rfl, hq, hr, hf1⟩
  rw [← HM.out] at hr
  have hM := HM.out
  have hMl : nl M ≤ xs.length := by
    have h1 : M ≤ val xs := by rw [hM]; exact Nat.mod_le _ _
    have := nl_mono h1
    omega
  have HX1 := hid (HX.out.fwd hf1)
  have HR : Hid (Rd w1 r (lim M)) := hid hr
  have HF1 := hid (hf1.toBelow hbs)
  have HFW := hid hf1
  have hbs1 := hf1.size
  clear hq hr hf1 hn1 hn2 hrx hy hM
  go_wp2_with (with_reducible refine law_copyM (by with_unfolding_all rfl) (.tmp 17) (.tmp 18) (by with_unfolding_all rfl) gx 0 xs.length xs.length _ (by with_unfolding_all rfl) (by with_unfolding_all rfl) [] xs px (lim M) HX1.out rfl rfl HR.out ?_)
  intro w2 hb2 ho2
  have hlm : (lim M).length = nl M := rfl
  have hmin : min (nl M) xs.length = nl M := by omega
  rw [hlm, hmin]
  have HB2 : Hid (Blk w2 gx (lim M ++ (xs.drop (nl M) ++ px))) := by
    rw [List.take_of_length_le (by rw [hlm]; exact hMl), hlm] at hb2
    exact hid (by simpa using hb2)
  have HO2 := hid ho2
  clear hb2 ho2 hlm hmin
  by_cases h0 : nl M = xs.length
  · have HE := hid h0
    go_wp2_with (with_reducible refine law_clear (by with_unfolding_all rfl) (.tmp 20) (by with_unfolding_all rfl) gx 0 0 0 (by with_unfolding_all rfl) [] [] (lim M ++ (xs.drop (nl M) ++ px)) (by simpa using HB2.out) rfl rfl ?_)
    intro w3 hb3 ho3
    go_wp2
    go_ret2
    refine ⟨lim M, rfl, HE.out, ?_, val_lim _, ?_, ?_⟩
    · have : xs.drop (nl M) = [] := List.drop_eq_nil_of_le (by rw [HE.out]; exact Nat.le_refl _)
      first | (rw [this] at hb3; simpa using hb3) | simpa using hb3
    · have d1 := Below.only HF1.out HO2.out (by omega) hgx
      exact Below.only d1 ho3 (Nat.le_trans hbs d1.size) hgx
    · intro b L' hne hb
      exact ((hb.fwd HFW.out).only HO2.out hne).only ho3 hne
  · have hlt : nl M < xs.length := by omega
    clear h0
    have hlt2 : (nl M : Int) < xs.length := by omega
    go_wp2_with (with_reducible refine law_clear (by with_unfolding_all rfl) (.tmp 20) (by with_unfolding_all rfl) gx (nl M) (xs.length - nl M) (xs.length - nl M) (by with_unfolding_all rfl) (lim M) (xs.drop (nl M)) px HB2.out rfl (by rw [List.length_drop]) ?_)
    intro w3 hb3 ho3
    go_wp2
    go_ret2
    refine ⟨lim M ++ List.replicate (xs.length - nl M) 0, rfl, ?_, ?_, ?_, ?_, ?_⟩
    · rw [List.length_append, List.length_replicate]; show nl M + _ = _; omega
    · first | simpa using hb3 | (rw [List.length_drop] at hb3; simpa using hb3)
    · rw [val_append, val_replicate, val_lim]; simp
    · have d1 := Below.only HF1.out HO2.out (by omega) hgx
      exact Below.only d1 ho3 (Nat.le_trans hbs d1.size) hgx
    · intro b L' hne hb
      exact ((hb.fwd HFW.out).only HO2.out hne).only ho3 hne

/-- What a round of Lehmer's way leaves. -/
def Lessened (w w' : World) (base gx gy L X Y : Nat) (px py : List Nat) (e : Ending) : Prop :=
  ∃ (gA gB R P : Nat) (zs ts pA pB : List Nat), e = .returned (.tuple #[.slice (some ⟨gA, 0, none⟩) L L, .slice (some ⟨gB, 0, none⟩) L L]) ∧ gA ≠ gB ∧ base ≤ gA ∧ base ≤ gB ∧ zs.length = L ∧ ts.length = L ∧
    Blk w' gA ([] ++ (zs ++ pA)) ∧ Blk w' gB ([] ++ (ts ++ pB)) ∧ val zs = R ∧ val ts = P ∧ P ≤ R ∧ R + P < X + Y ∧ Nat.gcd R P = Nat.gcd X Y ∧ Below base w w'

theorem shift_room {X : Nat} (h : 2 < nl X) : 64 < blen X ∧ blen X ≤ 32 * nl X ∧ X / 2 ^ (blen X - 64) < 18446744073709551616 := by
  have h1 : ¬ blen X ≤ 64 := by
    intro h2
    have h3 := (blen_le_iff X 64).1 h2
    have h4 := (nl_le_iff X 2).2 (by have : (4294967296 : Nat) ^ 2 = 2 ^ 64 := by decide
                                     omega)
    omega
  refine ⟨by omega, blen_nl X, ?_⟩
  rw [Nat.div_lt_iff_lt_mul (Nat.two_pow_pos _)]
  have h2 := (blen_le_iff X (blen X)).1 (Nat.le_refl _)
  have e : 2 ^ blen X = 18446744073709551616 * 2 ^ (blen X - 64) := by
    rw [show (18446744073709551616 : Nat) = 2 ^ 64 by decide, ← Nat.pow_add]; congr 1; omega
  omega

set_option maxHeartbeats 8000000 in
set_option maxRecDepth 20000 in
theorem lessen_any {w : World} {gx gy L base X Y : Nat} {px py ys : List Nat} (hx : Blk w gx ([] ++ (lim X ++ px))) (hy : Blk w gy ([] ++ (ys ++ py))) (hne : gx ≠ gy) (hXl : nl X = L) (hyl : ys.length = L) (hY : val ys = Y) (hL : L ≤ 10000000) (hle : Y ≤ X) (h2 : 2 < nl Y) (hgx : base ≤ gx) (hgy : base ≤ gy) :
    Calls Tryd.prog 36 #[.slice (some ⟨gx, 0, none⟩) L L, .slice (some ⟨gy, 0, none⟩) L L] w fun e w' => Lessened w w' base gx gy L X Y px py e := by
  have hXL : (lim X).length = L := hXl
  have hrx : Rd w (.slice (some ⟨gx, 0, none⟩) L L) (lim X) := by
    have := Blk.rd hx L (by omega) (le_maxLen (by omega))
    rwa [hXL] at this
  have hry : Rd w (.slice (some ⟨gy, 0, none⟩) L L) ys := by
    have := Blk.rd hy L (by omega) (le_maxLen (by omega))
    rwa [hyl] at this
  have hnX := nl_mono hle
  obtain ⟨hs1, hs2, hs3⟩ := shift_room (X := X) (by omega)
  obtain ⟨sh, hsh⟩ : ∃ sh, blen X = sh + 64 := ⟨blen X - 64, by omega⟩
  have esh : (blen X : Int) - 64 = (sh : Int) := by omega
  have hsh0 : sh ≤ 1000000000 := by omega
  rw [show blen X - 64 = sh by omega] at hs3
  have hbs : base ≤ w.heap.size := by have := hx.lt; omega
  have hY0 : Y ≠ 0 := by
    intro e
    rw [e, nl_zero] at h2; omega
  have hYs : Y / 2 ^ sh < 18446744073709551616 := Nat.lt_of_le_of_lt (Nat.div_le_div_right hle) hs3
  have HXB := hid hx
  have HYB := hid hy
  have HF := hid (fun w => foresee_any w (X := X) (Y := Y) (H := 2 ^ sh) (xl := X % 2 ^ sh) (yl := Y % 2 ^ sh) (a := X / 2 ^ sh) (b := Y / 2 ^ sh)
    (by rw [Nat.mul_comm]; exact (Nat.div_add_mod _ _).symm) (by rw [Nat.mul_comm]; exact (Nat.div_add_mod _ _).symm) (Nat.mod_lt _ (Nat.two_pow_pos _)) (Nat.mod_lt _ (Nat.two_pow_pos _)) (Nat.div_le_div_right hle) hs3)
  have HBX := hid (fun w' (hf : Fwd w w') => bitsFrom_any (hrx.fwd hf) sh (by rw [hXL]; omega) (by omega))
  have HBY := hid (fun w' (hf : Fwd w w') => bitsFrom_any (hry.fwd hf) sh (by rw [hyl]; omega) (by omega))
  rw [val_lim, Nat.mod_eq_of_lt hs3] at HBX
  rw [hY, Nat.mod_eq_of_lt hYs] at HBY
  have HALL := hid (And.intro hXl (And.intro hyl (And.intro hY (And.intro hle (And.intro hY0 hsh)))))
  have hnum : Num w (.slice (some ⟨gx, 0, none⟩) L L) X := hrx
  clear hx hy hrx hXl hyl hY hle h2 hnX hs1 hs2 hs3 hY0 hYs hsh hXL
  go_enter Tryd.func36, Tryd.ntmps36
  go_wp2_with fail
  refine (bits_any hnum (by rw [HALL.out.1]; omega)).mono ?_
  rintro e w1 ⟨rfl, hf1⟩
  go_wp2_with fail
  refine (HBX.out w1 hf1).mono ?_
  rintro e w2 ⟨rfl, hf2⟩
  go_wp2_with fail
  refine (HBY.out w2 (hf1.trans hf2)).mono ?_
  rintro e w3 ⟨rfl, hf3⟩
  go_wp2_with fail
  refine (HF.out w3).mono ?_
  rintro e w4 ⟨u0, u1, v0, v1, odd, rfl, hf4, hcase⟩
  have hFW := ((hf1.trans hf2).trans hf3).trans hf4
  clear hf1 hf2 hf3 hf4 HBX HBY HF hnum hry
  have hF5 := hid (hFW.alloc (.cells #[.int .u64 (u0 : Int), .int .u64 (u1 : Int), .int .u64 (v0 : Int), .int .u64 (v1 : Int), .bool odd] 66))
  have HC := hid hcase
  clear hcase hFW
  by_cases hv0 : v0 = 0
  · subst hv0
    go_wp2_with fail
    have hx5 := HXB.out.fwd hF5.out
    have hy5 := HYB.out.fwd hF5.out
    obtain ⟨a1, a2, a3, a4, a5, a6⟩ := HALL.out
    have hry5 := Blk.rd hy5 L (by omega) (le_maxLen (by omega))
    rw [a2] at hry5
    refine (oneStep_any hx5 a1 hL hry5 (by omega) (by rw [a3]; exact a5) hgx).mono ?_
    rintro e w6 ⟨zs, rfl, hzl, hbz, hvz, hbel, hfr⟩
    rw [val_lim, a3] at hvz
    have hgy6 := hfr gy _ (Ne.symm hne) hy5
    have HB6 := hid ((hF5.out.toBelow hbs).trans hbel)
    have HALL2 := hid (And.intro hzl (And.intro hbz (And.intro hvz hgy6)))
    clear hzl hbz hvz hbel hfr hgy6 hx5 hy5 hry5 a1 a2 a3 a4 a5 a6
    go_wp2
    go_ret2
    obtain ⟨a1, a2, a3, a4, a5, a6⟩ := HALL.out
    obtain ⟨b1, b2, b3, b4⟩ := HALL2.out
    have hml : X % Y < Y := Nat.mod_lt _ (Nat.pos_of_ne_zero a5)
    exact ⟨gy, gx, Y, X % Y, ys, zs, py, px, rfl, Ne.symm hne, hgy, hgx, a2, b1, b4, b2, a3, b3, by omega, by omega, by rw [Nat.gcd_comm Y, ← Nat.gcd_rec, Nat.gcd_comm], HB6.out⟩
  · have hv1 : ((v0 : Int) == 0) = false := by simp; omega
    obtain ⟨f1, f2, f3, f4, R, P, f5, f6, f7, f8⟩ : Foreseen X Y odd u0 u1 v0 v1 := by
      rcases HC.out with h | h
      · exact absurd h hv0
      · exact h
    have hpw := lt_pow_nl X
    rw [HALL.out.1] at hpw
    clear hv0
    cases odd
    · simp only [Bool.false_eq_true, if_false] at f8
      have F := hid (And.intro f5 (And.intro f6 (And.intro f7 (And.intro f8 hpw))))
      clear f5 f6 f7 f8 hpw
      go_wp2_with fail
      have hx5 := HXB.out.fwd hF5.out
      have hy5 := HYB.out.fwd hF5.out
      obtain ⟨a1, a2, a3, a4, a5, a6⟩ := HALL.out
      obtain ⟨g5, g6, g7, g8, gpw⟩ := F.out
      refine (walk_even (base := base) (RG := R) (RL := P) hx5 hy5 hne a1 a2 (by omega) hgx hgy f1 f3 f4 f2 (by rw [val_lim, a3]; exact g8.1) (by rw [val_lim, a3]; exact g8.2) (Nat.lt_of_le_of_lt (by omega) gpw) (Nat.lt_of_le_of_lt (by omega) gpw)).mono ?_
      rintro e w6 ⟨zs, ts, rfl, hzl, htl, hbz, hbt, hvz, hvt, hbel⟩
      have HB6 := hid ((hF5.out.toBelow hbs).trans hbel)
      have HALL2 := hid (And.intro hzl (And.intro htl (And.intro hbz (And.intro hbt (And.intro hvz hvt)))))
      clear hzl htl hbz hbt hvz hvt hbel hx5 hy5 a1 a2 a3 a4 a5 a6 g5 g6 g7 g8 gpw
      go_wp2
      go_ret2
      obtain ⟨a1, a2, a3, a4, a5, a6⟩ := HALL.out
      obtain ⟨b1, b2, b3, b4, b5, b6⟩ := HALL2.out
      obtain ⟨g5, g6, g7, g8, gpw⟩ := F.out
      exact ⟨gx, gy, R, P, zs, ts, px, py, rfl, hne, hgx, hgy, b1, b2, b3, b4, b5, b6, g5, by omega, g7, HB6.out⟩
    · simp only [if_true] at f8
      have F := hid (And.intro f5 (And.intro f6 (And.intro f7 (And.intro f8 hpw))))
      clear f5 f6 f7 f8 hpw
      go_wp2_with fail
      have hx5 := HXB.out.fwd hF5.out
      have hy5 := HYB.out.fwd hF5.out
      obtain ⟨a1, a2, a3, a4, a5, a6⟩ := HALL.out
      obtain ⟨g5, g6, g7, g8, gpw⟩ := F.out
      refine (walk_odd (base := base) (RG := R) (RL := P) hy5 hx5 (Ne.symm hne) a2 a1 (by omega) hgy hgx f3 f1 f2 f4 (by rw [val_lim, a3]; exact g8.1) (by rw [val_lim, a3]; exact g8.2) (Nat.lt_of_le_of_lt (by omega) gpw) (Nat.lt_of_le_of_lt (by omega) gpw)).mono ?_
      rintro e w6 ⟨zs, ts, rfl, hzl, htl, hbz, hbt, hvz, hvt, hbel⟩
      have HB6 := hid ((hF5.out.toBelow hbs).trans hbel)
      have HALL2 := hid (And.intro hzl (And.intro htl (And.intro hbz (And.intro hbt (And.intro hvz hvt)))))
      clear hzl htl hbz hbt hvz hvt hbel hx5 hy5 a1 a2 a3 a4 a5 a6 g5 g6 g7 g8 gpw
      go_wp2
      go_ret2
      obtain ⟨a1, a2, a3, a4, a5, a6⟩ := HALL.out
      obtain ⟨b1, b2, b3, b4, b5, b6⟩ := HALL2.out
      obtain ⟨g5, g6, g7, g8, gpw⟩ := F.out
      exact ⟨gy, gx, R, P, zs, ts, py, px, rfl, Ne.symm hne, hgy, hgx, b1, b2, b3, b4, b5, b6, g5, by omega, g7, HB6.out⟩

end Go.Proofs.YtbkphjmhmfgpgabDoor
