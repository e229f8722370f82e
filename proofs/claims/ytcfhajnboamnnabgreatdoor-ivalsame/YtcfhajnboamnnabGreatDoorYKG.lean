/- Plain mathematics of Lehmer's way: steps of Euclid's way that are foreseen from the top bits lead to the same greatest common divisor, and go down. Nothing of the program is named here. -/
/- Contracts of nat's bitsFrom and foresee. -/
/- The number that a value is, as a measure; contract of the second telling's Gcd. -/
/- Div, whatever the divisor; limbs that are written out. -/
/- Contract of nat's bitsFrom. -/
/- Contract of nat's difference.next. -/
/- Contract of nat's steps.walk: so many steps of Euclid's way at once. -/
/- Contracts of nat's oneStep and lessen. -/
/- Contracts of nat's gcdShort and Gcd. -/
/- Contract of nat's Gcd. -/
import Derived.Test.YtcfhajnboamnnabGreatDoorKE
import Derived.Test.YtcfhajnboamnnabGreatDoorKD
import Derived.Test.YtcfhajnboamnnabGreatDoorYXB1
import Derived.Deep.RegionWith
namespace Go.Proofs.YtcfhajnboamnnabGreatDoor

/-- σ times (u X - v Y). -/
def fP (σ : Int) (u v X Y : Nat) : Int := σ * ((u : Int) * X - (v : Int) * Y)

/-- Where foreseeing stands. -/
structure FS (X Y H xl yl : Nat) (σ : Int) (a b u0 u1 u2 v0 v1 v2 : Nat) : Prop where
  sg : σ = 1 ∨ σ = -1
  ab : b ≤ a
  idn : a * v2 + b * v1 < 18446744073709551616
  v2p : 1 ≤ v2
  uv2 : u2 ≤ v2
  uvs : u1 + u2 ≤ v1 + v2
  uv1 : v1 = 0 ∨ u1 ≤ v1
  v1b : v1 < 4294967296
  eP : fP σ u1 v1 X Y = (a : Int) * H + fP σ u1 v1 xl yl
  eQ : fP (-σ) u2 v2 X Y = (b : Int) * H + fP (-σ) u2 v2 xl yl
  P0 : 0 ≤ fP σ u1 v1 X Y
  PX : fP σ u1 v1 X Y ≤ X
  gc : Int.gcd (fP σ u1 v1 X Y) (fP (-σ) u2 v2 X Y) = Nat.gcd X Y
  QX : v1 = 0 ∨ fP (-σ) u2 v2 X Y + fP σ u1 v1 X Y ≤ X
  back : v0 = 0 ∨ (u0 ≤ v0 ∧ v0 < 4294967296 ∧ u1 ≤ v1 ∧ fP (-σ) u0 v0 X Y + fP σ u1 v1 X Y ≤ X ∧ fP σ u1 v1 X Y ≤ fP (-σ) u0 v0 X Y ∧ Int.gcd (fP (-σ) u0 v0 X Y) (fP σ u1 v1 X Y) = Nat.gcd X Y)

theorem FS.start {X Y H a b xl yl : Nat} (hX : X = a * H + xl) (hY : Y = b * H + yl) (hab : b ≤ a) (ha : a < 18446744073709551616) : FS X Y H xl yl 1 a b 0 1 0 0 0 1 := by
  refine ⟨.inl rfl, hab, by omega, by omega, by omega, by omega, .inl rfl, by omega, ?_, ?_, ?_, ?_, ?_, .inl rfl, .inl rfl⟩
  · simp [fP]; rw [hX]; simp
  · simp [fP]; rw [hY]; simp
  · simp [fP]
  · simp [fP]
  · simp [fP]

theorem low_bound {u v xl yl H : Nat} (h : u ≤ v) (hx : xl < H) (hy : yl < H) (σ : Int) (hs : σ = 1 ∨ σ = -1) : -((v : Int) * H) ≤ fP σ u v xl yl := by
  have h1 : (u : Int) * xl ≤ (v : Int) * H := by
    have := Nat.mul_le_mul h (Nat.le_of_lt hx)
    exact_mod_cast this
  have h2 : (v : Int) * yl ≤ (v : Int) * H := by
    have := Nat.mul_le_mul (Nat.le_refl v) (Nat.le_of_lt hy)
    exact_mod_cast this
  have h3 : 0 ≤ (u : Int) * xl := by exact_mod_cast Nat.zero_le (u * xl)
  have h4 : 0 ≤ (v : Int) * yl := by exact_mod_cast Nat.zero_le (v * yl)
  unfold fP
  generalize (u : Int) * xl = A at *
  generalize (v : Int) * yl = B at *
  generalize (v : Int) * H = C at *
  rcases hs with rfl | rfl <;> omega

theorem FS.Q0 {X Y H xl yl a b u0 u1 u2 v0 v1 v2 : Nat} {σ : Int} (S : FS X Y H xl yl σ a b u0 u1 u2 v0 v1 v2) (hx : xl < H) (hy : yl < H) (c1 : v2 ≤ b) : 0 ≤ fP (-σ) u2 v2 X Y := by
  have h1 := low_bound S.uv2 hx hy (-σ) (by rcases S.sg with h | h <;> subst h <;> simp)
  rw [S.eQ]
  have h2 : (v2 : Int) * H ≤ (b : Int) * H := by exact_mod_cast Nat.mul_le_mul_right H c1
  generalize (v2 : Int) * H = C at *
  generalize (b : Int) * H = D at *
  omega

theorem FS.PQ {X Y H xl yl a b u0 u1 u2 v0 v1 v2 : Nat} {σ : Int} (S : FS X Y H xl yl σ a b u0 u1 u2 v0 v1 v2) (hx : xl < H) (hy : yl < H) (c2 : v1 + v2 ≤ a - b) : fP (-σ) u2 v2 X Y ≤ fP σ u1 v1 X Y := by
  have h1 := low_bound S.uvs hx hy σ S.sg
  rw [S.eQ, S.eP]
  have h2 : ((v1 + v2 : Nat) : Int) * H + (b : Int) * H ≤ (a : Int) * H := by
    have h3 : (v1 + v2) * H + b * H ≤ a * H := by rw [← Nat.add_mul]; exact Nat.mul_le_mul_right _ (by have := S.v2p; omega)
    exact_mod_cast h3
  have e : fP σ (u1 + u2) (v1 + v2) xl yl = fP σ u1 v1 xl yl - fP (-σ) u2 v2 xl yl := by unfold fP; grind
  rw [e] at h1
  generalize ((v1 + v2 : Nat) : Int) * H = C at *
  generalize (b : Int) * H = D at *
  generalize (a : Int) * H = E at *
  omega

theorem FS.vb {X Y H xl yl a b u0 u1 u2 v0 v1 v2 : Nat} {σ : Int} (S : FS X Y H xl yl σ a b u0 u1 u2 v0 v1 v2) (c1 : v2 ≤ b) : v2 < 4294967296 := by
  rcases Nat.lt_or_ge v2 4294967296 with h | h
  · exact h
  · exfalso
    have h1 := S.idn
    have h2 : 4294967296 * 4294967296 ≤ a * v2 := Nat.mul_le_mul (by have := S.ab; omega) h
    omega

/-- What is reckoned in a step has room. -/
theorem FS.big {X Y H xl yl a b u0 u1 u2 v0 v1 v2 : Nat} {σ : Int} (S : FS X Y H xl yl σ a b u0 u1 u2 v0 v1 v2) (hb : 0 < b) :
    b * (v1 + a / b * v2) + a % b * v2 < 18446744073709551616 ∧ v1 + a / b * v2 < 18446744073709551616 ∧ u1 + a / b * u2 < 18446744073709551616 ∧ a / b * v2 < 18446744073709551616 ∧ a / b * u2 < 18446744073709551616 ∧ (b ≤ a → 1 ≤ a / b) := by
  have h := Nat.div_add_mod a b
  have hq : b ≤ a → 1 ≤ a / b := fun h => (Nat.le_div_iff_mul_le hb).2 (by omega)
  generalize a / b = q at *
  generalize a % b = r at *
  have e : b * (v1 + q * v2) + r * v2 = a * v2 + b * v1 := by rw [← h]; grind
  have hi := S.idn
  have hm : 1 * (v1 + q * v2) ≤ b * (v1 + q * v2) := Nat.mul_le_mul_right _ hb
  have h1 : v1 + q * v2 < 18446744073709551616 := by omega
  have hq1 := hq S.ab
  have h3 : u1 + q * u2 ≤ v1 + q * v2 := by
    obtain ⟨p, rfl⟩ : ∃ p, q = p + 1 := ⟨q - 1, by omega⟩
    have := Nat.mul_le_mul_left p S.uv2
    have := S.uvs
    rw [Nat.add_mul, Nat.add_mul]; omega
  exact ⟨by omega, h1, by omega, by omega, by omega, hq⟩

theorem FS.step {X Y H xl yl a b u0 u1 u2 v0 v1 v2 : Nat} {σ : Int} (S : FS X Y H xl yl σ a b u0 u1 u2 v0 v1 v2) (hx : xl < H) (hy : yl < H) (c1 : v2 ≤ b) (c2 : v1 + v2 ≤ a - b) :
    FS X Y H xl yl (-σ) b (a % b) u1 u2 (u1 + a / b * u2) v1 v2 (v1 + a / b * v2) := by
  have hb : 0 < b := by have := S.v2p; omega
  have hQ0 := S.Q0 hx hy c1
  have hPQ := S.PQ hx hy c2
  have hvb := S.vb c1
  obtain ⟨g1, g2, g3, g4, g5, g6⟩ := S.big hb
  have hq := g6 S.ab
  have hmod : a % b < b := Nat.mod_lt _ hb
  have h := Nat.div_add_mod a b
  have eQ' : ∀ x y : Nat, fP (- -σ) (u1 + a / b * u2) (v1 + a / b * v2) x y = fP σ u1 v1 x y - ((a / b : Nat) : Int) * fP (-σ) u2 v2 x y := by
    intro x y; unfold fP; push_cast; grind
  generalize a / b = q at *
  generalize a % b = r at *
  have hqq : (1 : Int) ≤ (q : Int) := by omega
  have hmul : fP (-σ) u2 v2 X Y ≤ (q : Int) * fP (-σ) u2 v2 X Y := by
    have := Int.mul_le_mul_of_nonneg_right hqq hQ0
    omega
  refine ⟨by rcases S.sg with h | h <;> subst h <;> simp, by omega, by omega, ?_, ?_, ?_, .inr S.uv2, hvb, S.eQ, ?_, hQ0, ?_, ?_, ?_, ?_⟩
  · have := S.v2p
    have : 1 * v2 ≤ q * v2 := Nat.mul_le_mul_right _ hq
    omega
  · obtain ⟨p, rfl⟩ : ∃ p, q = p + 1 := ⟨q - 1, by omega⟩
    have := Nat.mul_le_mul_left p S.uv2
    have := S.uvs
    rw [Nat.add_mul, Nat.add_mul]; omega
  · have := Nat.mul_le_mul_left q S.uv2
    have := S.uvs
    omega
  · rw [eQ', eQ', S.eP, S.eQ]
    have e : (a : Int) = (b : Int) * q + r := by rw [← h]; push_cast; rfl
    rw [e]; grind
  · have := S.PX; omega
  · rw [eQ', Int.gcd_sub_mul_right_right, Int.gcd_comm]; exact S.gc
  · right
    rw [eQ']
    have := S.PX; omega
  · rcases S.uv1 with h0 | h0
    · exact .inl h0
    · by_cases hz : v1 = 0
      · exact .inl hz
      · right
        refine ⟨h0, S.v1b, S.uv2, ?_, ?_, ?_⟩
        · rw [Int.neg_neg]
          rcases S.QX with h | h
          · exact absurd h hz
          · omega
        · rw [Int.neg_neg]; exact hPQ
        · rw [Int.neg_neg]; exact S.gc

/-- What was foreseen, in natural numbers: steps that lead to R and P. -/
def Foreseen (X Y : Nat) (odd : Bool) (u0 u1 v0 v1 : Nat) : Prop :=
  u0 < 4294967296 ∧ u1 < 4294967296 ∧ v0 < 4294967296 ∧ v1 < 4294967296 ∧ ∃ R P : Nat, P ≤ R ∧ R + P ≤ X ∧ Nat.gcd R P = Nat.gcd X Y ∧
    (if odd then R + u0 * X = v0 * Y ∧ P + v1 * Y = u1 * X else R + v0 * Y = u0 * X ∧ P + u1 * X = v1 * Y)

theorem FS.done {X Y H xl yl a b u0 u1 u2 v0 v1 v2 : Nat} {odd : Bool} (S : FS X Y H xl yl (if odd then 1 else -1) a b u0 u1 u2 v0 v1 v2) : v0 = 0 ∨ Foreseen X Y odd u0 u1 v0 v1 := by
  rcases S.back with h | ⟨h1, h2, h3, h4, h5, h6⟩
  · exact .inl h
  · right
    have hv1 := S.v1b
    have hP := S.P0
    refine ⟨by omega, by omega, h2, hv1, (fP (-(if odd then 1 else -1)) u0 v0 X Y).toNat, (fP (if odd then 1 else -1) u1 v1 X Y).toNat, by omega, by omega, ?_, ?_⟩
    · rw [← h6]
      have e1 : fP (-(if odd then 1 else -1)) u0 v0 X Y = ((fP (-(if odd then 1 else -1)) u0 v0 X Y).toNat : Int) := by omega
      have e2 : fP (if odd then 1 else -1) u1 v1 X Y = ((fP (if odd then 1 else -1) u1 v1 X Y).toNat : Int) := by omega
      conv => rhs; rw [e1, e2]
      rw [Int.gcd_natCast_natCast]
    · have c1 : ((u0 * X : Nat) : Int) = (u0 : Int) * X := by push_cast; rfl
      have c2 : ((v0 * Y : Nat) : Int) = (v0 : Int) * Y := by push_cast; rfl
      have c3 : ((u1 * X : Nat) : Int) = (u1 : Int) * X := by push_cast; rfl
      have c4 : ((v1 * Y : Nat) : Int) = (v1 : Int) * Y := by push_cast; rfl
      have hR : 0 ≤ fP (-(if odd then 1 else -1)) u0 v0 X Y := by omega
      clear h4 h5 h6 S
      cases odd
      · simp only [fP, Bool.false_eq_true, if_false] at *
        rw [← c1, ← c2] at hR ⊢
        rw [← c3, ← c4] at hP ⊢
        generalize u0 * X = A at *
        generalize v0 * Y = B at *
        generalize u1 * X = C at *
        generalize v1 * Y = D at *
        omega
      · simp only [fP, if_true] at *
        rw [← c1, ← c2] at hR ⊢
        rw [← c3, ← c4] at hP ⊢
        generalize u0 * X = A at *
        generalize v0 * Y = B at *
        generalize u1 * X = C at *
        generalize v1 * Y = D at *
        omega

end Go.Proofs.YtcfhajnboamnnabGreatDoor

namespace Go.Proofs.YtcfhajnboamnnabGreatDoor
open Go.RowKit
set_option linter.unusedVariables false

theorem mod_join (v T Q R x2 : Nat) (hQR : Q * R = 18446744073709551616) (hv : v < 18446744073709551616) (hQ : Q ∣ 4294967296) (hQ0 : 0 < Q) (hx : x2 = T % 4294967296) :
    v / Q + x2 * R % 18446744073709551616 = (v + 18446744073709551616 * T) / Q % 18446744073709551616 ∧ v / Q < R ∧ x2 * R % 18446744073709551616 % R = 0 := by
  have hR0 : 0 < R := by
    rcases Nat.eq_zero_or_pos R with h | h
    · rw [h] at hQR; omega
    · exact h
  have hvq : v / Q < R := by rw [Nat.div_lt_iff_lt_mul hQ0, Nat.mul_comm, hQR]; exact hv
  have e1 : (v + 18446744073709551616 * T) / Q = v / Q + R * T := by
    rw [← hQR, Nat.mul_assoc, Nat.add_mul_div_left _ _ hQ0]
  have ed : x2 % Q = T % Q := by rw [hx, Nat.mod_mod_of_dvd _ hQ]
  have e2 : x2 * R % 18446744073709551616 = (T % Q) * R := by
    rw [← hQR, Nat.mul_mod_mul_right, ed]
  have hd : T % Q < Q := Nat.mod_lt _ hQ0
  have hT := Nat.div_add_mod T Q
  generalize T % Q = d at *
  generalize T / Q = c at *
  refine ⟨?_, hvq, by rw [e2]; exact Nat.mul_mod_left _ _⟩
  rw [e1, e2]
  have e3 : R * T = R * d + 18446744073709551616 * c := by rw [← hT, ← hQR]; grind
  have hb : (d + 1) * R ≤ Q * R := Nat.mul_le_mul_right _ hd
  rw [e3, ← Nat.add_assoc, Nat.add_mul_mod_self_left, Nat.mod_eq_of_lt]
  · rw [Nat.mul_comm R d]
  · rw [hQR, Nat.add_mul] at hb
    rw [Nat.mul_comm R d]; omega

end Go.Proofs.YtcfhajnboamnnabGreatDoor

namespace Go.Proofs.YtcfhajnboamnnabGreatDoor
open Go.RowKit
set_option linter.unusedVariables false

theorem Rd.inj {w : World} {v : Value} {xs ys : List Nat} (h : Rd w v xs) (k : Rd w v ys) : xs = ys := by
  obtain ⟨ao, cap, e1, _, _, _, h3⟩ := h.parts
  obtain ⟨ao', cap', e2, _, _, _, k3⟩ := k.parts
  rw [e1] at e2
  injection e2 with e3 e4 e5
  subst e3
  apply List.ext_getElem e4
  intro i h1 h2
  obtain ⟨b, off, rfl, hc⟩ := h3 i h1
  obtain ⟨b', off', e6, hc'⟩ := k3 i h2
  cases e6
  rw [hc] at hc'
  have e7 := Option.some.inj hc'
  injection e7 with _ e8
  simp only [List.getD_eq_getElem?_getD, List.getElem?_eq_getElem h1, List.getElem?_eq_getElem h2, Option.getD_some] at e8
  omega
theorem Num.inj {w : World} {v : Value} {m n : Nat} (h : Num w v m) (k : Num w v n) : m = n := lim_inj (Rd.inj h k)

/-- The number that v is. -/
theorem numOf_ex : ∃ f : World → Value → Nat, ∀ (w : World) (v : Value) (n : Nat), Num w v n → f w v = n := by
  classical
  refine ⟨fun w v => if h : ∃ n, Num w v n then h.choose else 0, fun w v n h => ?_⟩
  have hx : ∃ n, Num w v n := ⟨n, h⟩
  show (if h : ∃ n, Num w v n then h.choose else 0) = n
  rw [dif_pos hx]
  exact Num.inj hx.choose_spec h

set_option maxHeartbeats 2000000 in
theorem refGcd_any {w : World} {a b : Value} {m n : Nat} (ha : Num w a m) (hb : Num w b n) (hm : nl m ≤ 30000) (hn : nl n ≤ 30000) :
    Calls Tryz.prog 80 #[a, b] w fun e w' => ∃ v, e = .returned v ∧ Num w' v (Nat.gcd m n) ∧ Fwd w w' := by
  obtain ⟨numOf, hq0⟩ := numOf_ex
  have NQ := hid hq0
  clear hq0
  go_enter Tryz.func80, Tryz.ntmps80
  go_wp2
  go_loopw [0, 1] (fun a b wr => ∃ A B : Nat, Num wr a A ∧ Num wr b B ∧ nl A ≤ 30000 ∧ nl B ≤ 30000 ∧ Nat.gcd A B = Nat.gcd m n ∧ Fwd w wr) (fun _ b wr => numOf wr b)
  case atStart => exact ⟨m, n, ha, hb, hm, hn, rfl, Fwd.refl _⟩
  case round =>
    obtain ⟨A, B, hA, hB, hAl, hBl, hg, hfw⟩ := hrel
    have HG := hid hg
    clear hg
    have HNB := hid (NQ.out _ _ _ hB)
    obtain ⟨bo, cb, rfl, hcb, hcmb, hcellb⟩ := hB.parts
    unfold maxLen at hcmb
    clear hcellb
    by_cases h0 : B = 0
    · have h1 : nl B = 0 := by rw [h0, nl_zero]
      have H0 := hid h0
      rw [h1]
      clear h0
      go_wp2_with fail
      refine (refTrim_any hA (show nl A ≤ _ by omega)).mono ?_
      rintro e w1 ⟨v, rfl, hv, hf⟩
      rw [val_lim] at hv
      go_wp2
      go_ret
      refine ⟨_, rfl, ?_, hfw.trans hf⟩
      rw [← HG.out, H0.out, Nat.gcd_zero_right]; exact hv
    · have hpos : 0 < nl B := by rw [nl_pos h0]; omega
      have H0 := hid h0
      clear h0
      go_wp2_with fail
      refine (refDiv_any hA hB hAl hBl H0.out).mono ?_
      rintro e w1 ⟨q, r, rfl, hq, hr, hf⟩
      have hB1 := hB.fwd hf
      go_wp2
      go_roundw
      case rel =>
        refine ⟨B, A % B, hB1, hr, hBl, Nat.le_trans (nl_mono (Nat.mod_le _ _)) hAl, ?_, hfw.trans hf⟩
        rw [← HG.out, Nat.gcd_comm B, ← Nat.gcd_rec, Nat.gcd_comm]
      case measure =>
        show numOf _ _ < numOf _ _
        rw [NQ.out _ _ _ hr, HNB.out]
        exact Nat.mod_lt _ (Nat.pos_of_ne_zero H0.out)

end Go.Proofs.YtcfhajnboamnnabGreatDoor

namespace Go.Proofs.YtcfhajnboamnnabGreatDoor
open Go.RowKit
set_option linter.unusedVariables false

/-- What is left; nought where the divisor is. -/
def remV (m n : Nat) : Nat := if n = 0 then 0 else m % n
/-- The error beside it. -/
def divE (n : Nat) : Int := if n = 0 then 5 else 0
theorem nl_remV (m n : Nat) : nl (remV m n) ≤ nl m := by
  unfold remV
  split
  · rw [nl_zero]; omega
  · exact nl_mono (Nat.mod_le _ _)
theorem nl_div (m n : Nat) : nl (m / n) ≤ nl m := nl_mono (Nat.div_le_self _ _)

theorem div_each {w : World} {a b : Value} {m n : Nat} (ha : Num w a m) (hb : Num w b n) (hm : nl m ≤ 10000000) (hn : nl n ≤ 10000000) :
    Calls Tryz.prog 119 #[a, b] w fun e w' => ∃ q r, e = .returned (.tuple #[q, r, .int .i64 (divE n)]) ∧ Num w' q (m / n) ∧ Num w' r (remV m n) ∧ Fwd w w' := by
  by_cases h : n = 0
  · subst h
    refine (div_zero ha hb).mono ?_
    rintro e w1 ⟨rfl, hf⟩
    exact ⟨_, _, rfl, by rw [Nat.div_zero]; exact num_nil _, num_nil _, hf⟩
  · refine (div_any ha hb hm hn h).mono ?_
    rintro e w1 ⟨q, r, rfl, hq, hr, hf⟩
    exact ⟨q, r, by rw [divE, if_neg h], hq, by rw [remV, if_neg h]; exact hr, hf⟩

set_option maxHeartbeats 2000000 in
theorem refDiv_zero {w : World} {a b : Value} {m : Nat} (ha : Num w a m) (hb : Num w b 0) :
    Calls Tryz.prog 81 #[a, b] w fun e w' => e = .returned (.tuple #[.slice none 0 0, .slice none 0 0, .int .i64 5]) ∧ Fwd w w' := by
  obtain ⟨bo, cb, rfl, hcb, hcmb, hcellb⟩ := hb.parts
  unfold maxLen at hcmb
  clear hcellb
  have h0 : nl 0 = 0 := nl_zero
  rw [h0]
  go_enter Tryz.func81, Tryz.ntmps81
  go_wp2
  go_ret3
  exact ⟨rfl, Fwd.refl _⟩

theorem refDiv_each {w : World} {a b : Value} {m n : Nat} (ha : Num w a m) (hb : Num w b n) (hm : nl m ≤ 30000) (hn : nl n ≤ 30000) :
    Calls Tryz.prog 81 #[a, b] w fun e w' => ∃ q r, e = .returned (.tuple #[q, r, .int .i64 (divE n)]) ∧ Num w' q (m / n) ∧ Num w' r (remV m n) ∧ Fwd w w' := by
  by_cases h : n = 0
  · subst h
    refine (refDiv_zero ha hb).mono ?_
    rintro e w1 ⟨rfl, hf⟩
    exact ⟨_, _, rfl, by rw [Nat.div_zero]; exact num_nil _, num_nil _, hf⟩
  · refine (refDiv_any ha hb hm hn h).mono ?_
    rintro e w1 ⟨q, r, rfl, hq, hr, hf⟩
    exact ⟨q, r, by rw [divE, if_neg h], hq, by rw [remV, if_neg h]; exact hr, hf⟩

/-- Limbs that the text itself lays. -/
theorem num_lit (w : World) (L : List Nat) (n : Nat) (h : L = lim n) (c : Nat) (hc : c = L.length) (hs : c ≤ 1000) (o : Array Value) (ho : o = (cellsOf L).toArray) : Num (w.alloc (.cells o 65)) (.slice (some ⟨w.heap.size, 0, none⟩) c c) n := by
  subst hc
  have hb := Blk.lit w L (by rw [h]; exact ok_lim n) o ho
  have := Blk.rdAll hb L.length (Nat.le_refl _) (le_maxLen (by omega))
  unfold Num
  rwa [← h]

theorem gcd_mul_right' (x y k : Nat) : Nat.gcd (x * k) (y * k) = Nat.gcd x y * k := Nat.gcd_mul_right _ _ _
theorem gcd_parts {x y : Nat} (h : Nat.gcd x y ≠ 0) : Nat.gcd (x / Nat.gcd x y) (y / Nat.gcd x y) = 1 := by
  rw [Nat.gcd_div (Nat.gcd_dvd_left _ _) (Nat.gcd_dvd_right _ _)]
  exact Nat.div_self (Nat.pos_of_ne_zero h)
theorem nl_gcd_left (x y : Nat) (h : x ≠ 0) : nl (Nat.gcd x y) ≤ nl x := nl_mono (Nat.le_of_dvd (Nat.pos_of_ne_zero h) (Nat.gcd_dvd_left _ _))
theorem nl_gcd (x y : Nat) : nl (Nat.gcd x y) ≤ max (nl x) (nl y) := by
  by_cases h : x = 0
  · subst h; rw [Nat.gcd_zero_left]; omega
  · have := nl_gcd_left x y h; omega

end Go.Proofs.YtcfhajnboamnnabGreatDoor

namespace Go.Proofs.YtcfhajnboamnnabGreatDoor
open Go.RowKit
set_option linter.unusedVariables false

theorem or64 (a b k : Nat) (ha : a < 18446744073709551616) (hb : b < 18446744073709551616) (hk : a < 2 ^ k) (hd : b % 2 ^ k = 0) : bits .or .u64 (a : Int) (b : Int) = ((a + b : Nat) : Int) := by
  rw [u64_or_nat _ _ ha hb, Nat.or_comm, nat_join k _ _ hd hk, Nat.add_comm]

/-- The limbs from i on. -/
theorem limbs_from (V i : Nat) : V / 4294967296 ^ i % 4294967296 + V / 4294967296 ^ (i + 1) % 4294967296 * 4294967296 = V / 4294967296 ^ i % 18446744073709551616 ∧ V / 4294967296 ^ (i + 2) % 4294967296 = V / 4294967296 ^ i / 18446744073709551616 % 4294967296 := by
  have e1 : V / 4294967296 ^ (i + 1) = V / 4294967296 ^ i / 4294967296 := by rw [Nat.pow_succ, Nat.div_div_eq_div_mul]
  have e2 : V / 4294967296 ^ (i + 2) = V / 4294967296 ^ i / 18446744073709551616 := by rw [Nat.pow_succ, Nat.pow_succ, Nat.div_div_eq_div_mul, Nat.mul_assoc]
  rw [e1, e2]
  generalize V / 4294967296 ^ i = W
  omega

theorem bits_at {V i p x2 : Nat} (hp : p < 32) (hx : x2 = V / 4294967296 ^ (i + 2) % 4294967296) :
    V / 4294967296 ^ i % 18446744073709551616 / 2 ^ p + x2 * 2 ^ (64 - p) % 18446744073709551616 = V / 2 ^ (32 * i + p) % 18446744073709551616 ∧ V / 4294967296 ^ i % 18446744073709551616 / 2 ^ p < 2 ^ (64 - p) ∧ x2 * 2 ^ (64 - p) % 18446744073709551616 % 2 ^ (64 - p) = 0 := by
  rw [(limbs_from V i).2] at hx
  have hQR : 2 ^ p * 2 ^ (64 - p) = 18446744073709551616 := by rw [← Nat.pow_add, show p + (64 - p) = 64 by omega]
  have hdv : 2 ^ p ∣ 4294967296 := ⟨2 ^ (32 - p), by rw [← Nat.pow_add, show p + (32 - p) = 32 by omega]⟩
  have h := mod_join (V / 4294967296 ^ i % 18446744073709551616) (V / 4294967296 ^ i / 18446744073709551616) (2 ^ p) (2 ^ (64 - p)) x2 hQR (Nat.mod_lt _ (by omega)) hdv (Nat.two_pow_pos _) hx
  refine ⟨?_, h.2⟩
  rw [h.1, Nat.mod_add_div, Nat.pow_add, ← pow32, ← Nat.div_div_eq_div_mul]

end Go.Proofs.YtcfhajnboamnnabGreatDoor

namespace Go.Proofs.YtcfhajnboamnnabGreatDoor
open Go.RowKit
set_option linter.unusedVariables false

/-- One round of a difference of two multiples. -/
theorem diff_step {P X Y Z p m cp cm b b' a y r : Nat} (h : p * X + (b + cm) * P = Z + m * Y + cp * P) (e : (cp + p * a) % 4294967296 + b' * 4294967296 = r + (b + (cm + m * y) % 4294967296)) :
    p * (X + P * a) + (b' + (cm + m * y) / 4294967296) * (P * 4294967296) = Z + P * r + m * (Y + P * y) + (cp + p * a) / 4294967296 * (P * 4294967296) := by
  have h1 := Nat.div_add_mod (cp + p * a) 4294967296
  have h2 := Nat.div_add_mod (cm + m * y) 4294967296
  generalize (cp + p * a) / 4294967296 = c1 at *
  generalize (cm + m * y) / 4294967296 = c2 at *
  generalize (cp + p * a) % 4294967296 = d1 at *
  generalize (cm + m * y) % 4294967296 = d2 at *
  have e1 : P * (4294967296 * c1 + d1) = P * (cp + p * a) := by rw [h1]
  have e2 : P * (4294967296 * c2 + d2) = P * (cm + m * y) := by rw [h2]
  have e3 : P * (d1 + b' * 4294967296) = P * (r + (b + d2)) := by rw [e]
  grind

theorem diff_low (s t b : Nat) (hb : b ≤ 1) :
    ∃ r b' : Nat, r < 4294967296 ∧ b' ≤ 1 ∧ s % 4294967296 + b' * 4294967296 = r + (b + t % 4294967296) ∧ IntKind.u64.wrap (IntKind.u64.wrap ((s : Int) % 4294967296 - (t : Int) % 4294967296) - b) / 9223372036854775808 = (b' : Int) ∧ IntKind.u64.wrap (IntKind.u64.wrap ((s : Int) % 4294967296 - (t : Int) % 4294967296) - b) % 4294967296 = (r : Int) := by
  have h := sub_low (s % 4294967296) t b (by omega) hb
  rw [Int.natCast_emod] at h
  exact h

end Go.Proofs.YtcfhajnboamnnabGreatDoor

namespace Go.Proofs.YtcfhajnboamnnabGreatDoor
open Go.RowKit
set_option linter.unusedVariables false

theorem Blk.below {w w' : World} {g base : Nat} {L : List Nat} (h : Blk w g L) (k : Below base w w') (hg : g < base) : Blk w' g L := ⟨(k.block g hg).trans h.1, h.2⟩
theorem Below.only {base g : Nat} {a w w' : World} (h : Below base a w) (k : Only g w w') (hb : base ≤ w.heap.size) (hg : base ≤ g) : Below base a w' :=
  Below.grown h k hb (fun i e => by simp at e; omega)

theorem Blk.drew {w : World} {g : Nat} {L : List Nat} (h : Blk w g L) : Blk w.drew g L := h
theorem cell_drew {w : World} {p : Addr} {v : Value} (h : w.cell? p = some v) : w.drew.cell? p = some v := h

/-- What was told by limbs is the number itself. -/
theorem diff_done {L p m X Y R Z cp cm b : Nat} (h : p * X + (b + cm) * 4294967296 ^ L = Z + m * Y + cp * 4294967296 ^ L) (hR : R + m * Y = p * X) (hRl : R < 4294967296 ^ L) (hZl : Z < 4294967296 ^ L) : Z = R := by
  generalize 4294967296 ^ L = P at *
  have e : R + (b + cm) * P = Z + cp * P := by omega
  have e1 : (R + (b + cm) * P) % P = R := by rw [Nat.add_mul_mod_self_right, Nat.mod_eq_of_lt hRl]
  have e2 : (Z + cp * P) % P = Z := by rw [Nat.add_mul_mod_self_right, Nat.mod_eq_of_lt hZl]
  rw [e] at e1
  omega

end Go.Proofs.YtcfhajnboamnnabGreatDoor

namespace Go.Proofs.YtcfhajnboamnnabGreatDoor
open Go.RowKit
set_option linter.unusedVariables false

theorem Fwd.toBelow {w w' : World} {base : Nat} (h : Fwd w w') (hb : base ≤ w.heap.size) : Below base w w' := Below.mono h hb

/-- What a round of Lehmer's way leaves. -/
def Lessened (w w' : World) (base gx gy L X Y : Nat) (px py : List Nat) (e : Ending) : Prop :=
  ∃ (gA gB R P : Nat) (zs ts pA pB : List Nat), e = .returned (.tuple #[.slice (some ⟨gA, 0, none⟩) L L, .slice (some ⟨gB, 0, none⟩) L L]) ∧ gA ≠ gB ∧ base ≤ gA ∧ base ≤ gB ∧ zs.length = L ∧ ts.length = L ∧
    Blk w' gA ([] ++ (zs ++ pA)) ∧ Blk w' gB ([] ++ (ts ++ pB)) ∧ val zs = R ∧ val ts = P ∧ P ≤ R ∧ R + P < X + Y ∧ Nat.gcd R P = Nat.gcd X Y ∧ Below base w w'

theorem shift_room {X : Nat} (h : 2 < nl X) : 64 < blen X ∧ blen X ≤ 32 * nl X ∧ X / 2 ^ (blen X - 64) < 18446744073709551616 := by
  have h1 : ¬ blen X ≤ 64 := by
    intro h2
    have h3 := (blen_le_iff X 64).1 h2
    have h4 := (nl_le_iff X 2).2 (by have : (4294967296 : Nat) ^ 2 = 2 ^ 64 := by decide
                                     omega)
    omega
  refine ⟨by omega, blen_nl X, ?_⟩
  rw [Nat.div_lt_iff_lt_mul (Nat.two_pow_pos _)]
  have h2 := (blen_le_iff X (blen X)).1 (Nat.le_refl _)
  have e : 2 ^ blen X = 18446744073709551616 * 2 ^ (blen X - 64) := by
    rw [show (18446744073709551616 : Nat) = 2 ^ 64 by decide, ← Nat.pow_add]; congr 1; omega
  omega

end Go.Proofs.YtcfhajnboamnnabGreatDoor

namespace Go.Proofs.YtcfhajnboamnnabGreatDoor
open Go.RowKit
set_option linter.unusedVariables false

end Go.Proofs.YtcfhajnboamnnabGreatDoor

namespace Go.Proofs.YtcfhajnboamnnabGreatDoor
open Go.RowKit
set_option linter.unusedVariables false

/-- The number that v reads as. -/
theorem valOf_ex : ∃ f : World → Value → Nat, ∀ (w : World) (v : Value) (xs : List Nat), Rd w v xs → f w v = val xs := by
  classical
  refine ⟨fun w v => if h : ∃ xs, Rd w v xs then val h.choose else 0, fun w v xs h => ?_⟩
  have hx : ∃ xs, Rd w v xs := ⟨xs, h⟩
  show (if h : ∃ xs, Rd w v xs then val h.choose else 0) = val xs
  rw [dif_pos hx]
  exact congrArg val (Rd.inj hx.choose_spec h)
theorem Blk.rdLen {w : World} {g n : Nat} {xs post : List Nat} (h : Blk w g ([] ++ (xs ++ post))) (hl : xs.length = n) (hn : n ≤ 1000000000) : Rd w (.slice (some ⟨g, 0, none⟩) n n) xs := by
  have := Blk.rd h n (by omega) (le_maxLen (by omega))
  rwa [hl] at this

end Go.Proofs.YtcfhajnboamnnabGreatDoor
