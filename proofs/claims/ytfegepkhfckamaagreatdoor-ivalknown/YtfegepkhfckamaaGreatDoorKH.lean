/- The number that a value is, as a measure; contract of the second telling's Gcd. -/
/- Div, whatever the divisor; limbs that are written out. -/
/- Contract of nat's steps.walk: so many steps of Euclid's way at once. -/
/- Contracts of nat's oneStep and lessen. -/
/- Contracts of nat's gcdShort and Gcd. -/
/- Contract of nat's Gcd. -/
import Derived.Test.YtfegepkhfckamaaGreatDoorKE
import Derived.Test.YtfegepkhfckamaaGreatDoorKG
import Derived.Deep.RegionWith
namespace Go.Proofs.YtfegepkhfckamaaGreatDoor
open Go.RowKit
set_option linter.unusedVariables false

theorem Rd.inj {w : World} {v : Value} {xs ys : List Nat} (h : Rd w v xs) (k : Rd w v ys) : xs = ys := by
  obtain ⟨ao, cap, e1, _, _, _, h3⟩ := h.parts
  obtain ⟨ao', cap', e2, _, _, _, k3⟩ := k.parts
  rw [e1] at e2
  injection e2 with e3 e4 e5
  subst e3
  apply List.ext_getElem e4
  intro i h1 h2
  obtain ⟨b, off, rfl, hc⟩ := h3 i h1
  obtain ⟨b', off', e6, hc'⟩ := k3 i h2
  cases e6
  rw [hc] at hc'
  have e7 := Option.some.inj hc'
  injection e7 with _ e8
  simp only [List.getD_eq_getElem?_getD, List.getElem?_eq_getElem h1, List.getElem?_eq_getElem h2, Option.getD_some] at e8
  omega
theorem Num.inj {w : World} {v : Value} {m n : Nat} (h : Num w v m) (k : Num w v n) : m = n := lim_inj (Rd.inj h k)

/-- The number that v is. -/
theorem numOf_ex : ∃ f : World → Value → Nat, ∀ (w : World) (v : Value) (n : Nat), Num w v n → f w v = n := by
  classical
  refine ⟨fun w v => if h : ∃ n, Num w v n then h.choose else 0, fun w v n h => ?_⟩
  have hx : ∃ n, Num w v n := ⟨n, h⟩
  show (if h : ∃ n, Num w v n then h.choose else 0) = n
  rw [dif_pos hx]
  exact Num.inj hx.choose_spec h

set_option maxHeartbeats 2000000 in
theorem refGcd_any {w : World} {a b : Value} {m n : Nat} (ha : Num w a m) (hb : Num w b n) (hm : nl m ≤ 30000) (hn : nl n ≤ 30000) :
    Calls Tryz.prog 43 #[a, b] w fun e w' => ∃ v, e = .returned v ∧ Num w' v (Nat.gcd m n) ∧ Fwd w w' := by
  obtain ⟨numOf, hq0⟩ := numOf_ex
  have NQ := hid hq0
  clear hq0
  go_enter Tryz.func43, Tryz.ntmps43
  go_wp2
  go_loopw [0, 1] (fun a b wr => ∃ A B : Nat, Num wr a A ∧ Num wr b B ∧ nl A ≤ 30000 ∧ nl B ≤ 30000 ∧ Nat.gcd A B = Nat.gcd m n ∧ Fwd w wr) (fun _ b wr => numOf wr b)
  case atStart => exact ⟨m, n, ha, hb, hm, hn, rfl, Fwd.refl _⟩
  case round =>
    obtain ⟨A, B, hA, hB, hAl, hBl, hg, hfw⟩ := hrel
    have HG := hid hg
    clear hg
    have HNB := hid (NQ.out _ _ _ hB)
    obtain ⟨bo, cb, rfl, hcb, hcmb, hcellb⟩ := hB.parts
    unfold maxLen at hcmb
    clear hcellb
    by_cases h0 : B = 0
    · have h1 : nl B = 0 := by rw [h0, nl_zero]
      have H0 := hid h0
      rw [h1]
      clear h0
      go_wp2_with fail
      refine (refTrim_any hA (show nl A ≤ _ by omega)).mono ?_
      rintro e w1 ⟨v, rfl, hv, hf⟩
      rw [val_lim] at hv
      go_wp2
      go_ret
      refine ⟨_, rfl, ?_, hfw.trans hf⟩
      rw [← HG.out, H0.out, Nat.gcd_zero_right]; exact hv
    · have hpos : 0 < nl B := by rw [nl_pos h0]; omega
      have H0 := hid h0
      clear h0
      go_wp2_with fail
      refine (refDiv_any hA hB hAl hBl H0.out).mono ?_
      rintro e w1 ⟨q, r, rfl, hq, hr, hf⟩
      have hB1 := hB.fwd hf
      go_wp2
      go_roundw
      case rel =>
        refine ⟨B, A % B, hB1, hr, hBl, Nat.le_trans (nl_mono (Nat.mod_le _ _)) hAl, ?_, hfw.trans hf⟩
        rw [← HG.out, Nat.gcd_comm B, ← Nat.gcd_rec, Nat.gcd_comm]
      case measure =>
        show numOf _ _ < numOf _ _
        rw [NQ.out _ _ _ hr, HNB.out]
        exact Nat.mod_lt _ (Nat.pos_of_ne_zero H0.out)

end Go.Proofs.YtfegepkhfckamaaGreatDoor

namespace Go.Proofs.YtfegepkhfckamaaGreatDoor
open Go.RowKit
set_option linter.unusedVariables false

/-- What is left; nought where the divisor is. -/
def remV (m n : Nat) : Nat := if n = 0 then 0 else m % n
/-- The error beside it. -/
def divE (n : Nat) : Int := if n = 0 then 5 else 0
theorem nl_remV (m n : Nat) : nl (remV m n) ≤ nl m := by
  unfold remV
  split
  · rw [nl_zero]; omega
  · exact nl_mono (Nat.mod_le _ _)
theorem nl_div (m n : Nat) : nl (m / n) ≤ nl m := nl_mono (Nat.div_le_self _ _)

theorem div_each {w : World} {a b : Value} {m n : Nat} (ha : Num w a m) (hb : Num w b n) (hm : nl m ≤ 10000000) (hn : nl n ≤ 10000000) :
    Calls Tryz.prog 65 #[a, b] w fun e w' => ∃ q r, e = .returned (.tuple #[q, r, .int .i64 (divE n)]) ∧ Num w' q (m / n) ∧ Num w' r (remV m n) ∧ Fwd w w' := by
  by_cases h : n = 0
  · subst h
    refine (div_zero ha hb).mono ?_
    rintro e w1 ⟨rfl, hf⟩
    exact ⟨_, _, rfl, by rw [Nat.div_zero]; exact num_nil _, num_nil _, hf⟩
  · refine (div_any ha hb hm hn h).mono ?_
    rintro e w1 ⟨q, r, rfl, hq, hr, hf⟩
    exact ⟨q, r, by rw [divE, if_neg h], hq, by rw [remV, if_neg h]; exact hr, hf⟩

set_option maxHeartbeats 2000000 in
theorem refDiv_zero {w : World} {a b : Value} {m : Nat} (ha : Num w a m) (hb : Num w b 0) :
    Calls Tryz.prog 44 #[a, b] w fun e w' => e = .returned (.tuple #[.slice none 0 0, .slice none 0 0, .int .i64 5]) ∧ Fwd w w' := by
  obtain ⟨bo, cb, rfl, hcb, hcmb, hcellb⟩ := hb.parts
  unfold maxLen at hcmb
  clear hcellb
  have h0 : nl 0 = 0 := nl_zero
  rw [h0]
  go_enter Tryz.func44, Tryz.ntmps44
  go_wp2
  go_ret3
  exact ⟨rfl, Fwd.refl _⟩

theorem refDiv_each {w : World} {a b : Value} {m n : Nat} (ha : Num w a m) (hb : Num w b n) (hm : nl m ≤ 30000) (hn : nl n ≤ 30000) :
    Calls Tryz.prog 44 #[a, b] w fun e w' => ∃ q r, e = .returned (.tuple #[q, r, .int .i64 (divE n)]) ∧ Num w' q (m / n) ∧ Num w' r (remV m n) ∧ Fwd w w' := by
  by_cases h : n = 0
  · subst h
    refine (refDiv_zero ha hb).mono ?_
    rintro e w1 ⟨rfl, hf⟩
    exact ⟨_, _, rfl, by rw [Nat.div_zero]; exact num_nil _, num_nil _, hf⟩
  · refine (refDiv_any ha hb hm hn h).mono ?_
    rintro e w1 ⟨q, r, rfl, hq, hr, hf⟩
    exact ⟨q, r, by rw [divE, if_neg h], hq, by rw [remV, if_neg h]; exact hr, hf⟩

/-- Limbs that the text itself lays. -/
theorem num_lit (w : World) (L : List Nat) (n : Nat) (h : L = lim n) (c : Nat) (hc : c = L.length) (hs : c ≤ 1000) (o : Array Value) (ho : o = (cellsOf L).toArray) : Num (w.alloc (.cells o 57)) (.slice (some ⟨w.heap.size, 0, none⟩) c c) n := by
  subst hc
  have hb := Blk.lit w L (by rw [h]; exact ok_lim n) o ho
  have := Blk.rdAll hb L.length (Nat.le_refl _) (le_maxLen (by omega))
  unfold Num
  rwa [← h]

theorem gcd_mul_right' (x y k : Nat) : Nat.gcd (x * k) (y * k) = Nat.gcd x y * k := Nat.gcd_mul_right _ _ _
theorem gcd_parts {x y : Nat} (h : Nat.gcd x y ≠ 0) : Nat.gcd (x / Nat.gcd x y) (y / Nat.gcd x y) = 1 := by
  rw [Nat.gcd_div (Nat.gcd_dvd_left _ _) (Nat.gcd_dvd_right _ _)]
  exact Nat.div_self (Nat.pos_of_ne_zero h)
theorem nl_gcd_left (x y : Nat) (h : x ≠ 0) : nl (Nat.gcd x y) ≤ nl x := nl_mono (Nat.le_of_dvd (Nat.pos_of_ne_zero h) (Nat.gcd_dvd_left _ _))
theorem nl_gcd (x y : Nat) : nl (Nat.gcd x y) ≤ max (nl x) (nl y) := by
  by_cases h : x = 0
  · subst h; rw [Nat.gcd_zero_left]; omega
  · have := nl_gcd_left x y h; omega

end Go.Proofs.YtfegepkhfckamaaGreatDoor

namespace Go.Proofs.YtfegepkhfckamaaGreatDoor
open Go.RowKit
set_option linter.unusedVariables false

theorem Blk.below {w w' : World} {g base : Nat} {L : List Nat} (h : Blk w g L) (k : Below base w w') (hg : g < base) : Blk w' g L := ⟨(k.block g hg).trans h.1, h.2⟩
theorem Below.only {base g : Nat} {a w w' : World} (h : Below base a w) (k : Only g w w') (hb : base ≤ w.heap.size) (hg : base ≤ g) : Below base a w' :=
  Below.grown h k hb (fun i e => by simp at e; omega)

theorem Blk.drew {w : World} {g : Nat} {L : List Nat} (h : Blk w g L) : Blk w.drew g L := h
theorem cell_drew {w : World} {p : Addr} {v : Value} (h : w.cell? p = some v) : w.drew.cell? p = some v := h

/-- What was told by limbs is the number itself. -/
theorem diff_done {L p m X Y R Z cp cm b : Nat} (h : p * X + (b + cm) * 4294967296 ^ L = Z + m * Y + cp * 4294967296 ^ L) (hR : R + m * Y = p * X) (hRl : R < 4294967296 ^ L) (hZl : Z < 4294967296 ^ L) : Z = R := by
  generalize 4294967296 ^ L = P at *
  have e : R + (b + cm) * P = Z + cp * P := by omega
  have e1 : (R + (b + cm) * P) % P = R := by rw [Nat.add_mul_mod_self_right, Nat.mod_eq_of_lt hRl]
  have e2 : (Z + cp * P) % P = Z := by rw [Nat.add_mul_mod_self_right, Nat.mod_eq_of_lt hZl]
  rw [e] at e1
  omega

end Go.Proofs.YtfegepkhfckamaaGreatDoor

namespace Go.Proofs.YtfegepkhfckamaaGreatDoor
open Go.RowKit
set_option linter.unusedVariables false

theorem Fwd.toBelow {w w' : World} {base : Nat} (h : Fwd w w') (hb : base ≤ w.heap.size) : Below base w w' := Below.mono h hb

/-- What a round of Lehmer's way leaves. -/
def Lessened (w w' : World) (base gx gy L X Y : Nat) (px py : List Nat) (e : Ending) : Prop :=
  ∃ (gA gB R P : Nat) (zs ts pA pB : List Nat), e = .returned (.tuple #[.slice (some ⟨gA, 0, none⟩) L L, .slice (some ⟨gB, 0, none⟩) L L]) ∧ gA ≠ gB ∧ base ≤ gA ∧ base ≤ gB ∧ zs.length = L ∧ ts.length = L ∧
    Blk w' gA ([] ++ (zs ++ pA)) ∧ Blk w' gB ([] ++ (ts ++ pB)) ∧ val zs = R ∧ val ts = P ∧ P ≤ R ∧ R + P < X + Y ∧ Nat.gcd R P = Nat.gcd X Y ∧ Below base w w'

theorem shift_room {X : Nat} (h : 2 < nl X) : 64 < blen X ∧ blen X ≤ 32 * nl X ∧ X / 2 ^ (blen X - 64) < 18446744073709551616 := by
  have h1 : ¬ blen X ≤ 64 := by
    intro h2
    have h3 := (blen_le_iff X 64).1 h2
    have h4 := (nl_le_iff X 2).2 (by have : (4294967296 : Nat) ^ 2 = 2 ^ 64 := by decide
                                     omega)
    omega
  refine ⟨by omega, blen_nl X, ?_⟩
  rw [Nat.div_lt_iff_lt_mul (Nat.two_pow_pos _)]
  have h2 := (blen_le_iff X (blen X)).1 (Nat.le_refl _)
  have e : 2 ^ blen X = 18446744073709551616 * 2 ^ (blen X - 64) := by
    rw [show (18446744073709551616 : Nat) = 2 ^ 64 by decide, ← Nat.pow_add]; congr 1; omega
  omega

end Go.Proofs.YtfegepkhfckamaaGreatDoor

namespace Go.Proofs.YtfegepkhfckamaaGreatDoor
open Go.RowKit
set_option linter.unusedVariables false

end Go.Proofs.YtfegepkhfckamaaGreatDoor

namespace Go.Proofs.YtfegepkhfckamaaGreatDoor
open Go.RowKit
set_option linter.unusedVariables false

/-- The number that v reads as. -/
theorem valOf_ex : ∃ f : World → Value → Nat, ∀ (w : World) (v : Value) (xs : List Nat), Rd w v xs → f w v = val xs := by
  classical
  refine ⟨fun w v => if h : ∃ xs, Rd w v xs then val h.choose else 0, fun w v xs h => ?_⟩
  have hx : ∃ xs, Rd w v xs := ⟨xs, h⟩
  show (if h : ∃ xs, Rd w v xs then val h.choose else 0) = val xs
  rw [dif_pos hx]
  exact congrArg val (Rd.inj hx.choose_spec h)
theorem Blk.rdLen {w : World} {g n : Nat} {xs post : List Nat} (h : Blk w g ([] ++ (xs ++ post))) (hl : xs.length = n) (hn : n ≤ 1000000000) : Rd w (.slice (some ⟨g, 0, none⟩) n n) xs := by
  have := Blk.rd h n (by omega) (le_maxLen (by omega))
  rwa [hl] at this

end Go.Proofs.YtfegepkhfckamaaGreatDoor
