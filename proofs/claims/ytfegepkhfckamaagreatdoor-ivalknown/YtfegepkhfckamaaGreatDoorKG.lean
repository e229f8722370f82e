/- Plain mathematics of Lehmer's way: steps of Euclid's way that are foreseen from the top bits lead to the same greatest common divisor, and go down. Nothing of the program is named here. -/
/- Contracts of nat's bitsFrom and foresee. -/
/- Contract of nat's bitsFrom. -/
/- Contract of nat's difference.next. -/
import Derived.Test.YtfegepkhfckamaaGreatDoorKE
import Derived.Test.YtfegepkhfckamaaGreatDoorKD
import Derived.Test.YtfegepkhfckamaaGreatDoorXK1
namespace Go.Proofs.YtfegepkhfckamaaGreatDoor

/-- σ times (u X - v Y). -/
def fP (σ : Int) (u v X Y : Nat) : Int := σ * ((u : Int) * X - (v : Int) * Y)

/-- Where foreseeing stands. -/
structure FS (X Y H xl yl : Nat) (σ : Int) (a b u0 u1 u2 v0 v1 v2 : Nat) : Prop where
  sg : σ = 1 ∨ σ = -1
  ab : b ≤ a
  idn : a * v2 + b * v1 < 18446744073709551616
  v2p : 1 ≤ v2
  uv2 : u2 ≤ v2
  uvs : u1 + u2 ≤ v1 + v2
  uv1 : v1 = 0 ∨ u1 ≤ v1
  v1b : v1 < 4294967296
  eP : fP σ u1 v1 X Y = (a : Int) * H + fP σ u1 v1 xl yl
  eQ : fP (-σ) u2 v2 X Y = (b : Int) * H + fP (-σ) u2 v2 xl yl
  P0 : 0 ≤ fP σ u1 v1 X Y
  PX : fP σ u1 v1 X Y ≤ X
  gc : Int.gcd (fP σ u1 v1 X Y) (fP (-σ) u2 v2 X Y) = Nat.gcd X Y
  QX : v1 = 0 ∨ fP (-σ) u2 v2 X Y + fP σ u1 v1 X Y ≤ X
  back : v0 = 0 ∨ (u0 ≤ v0 ∧ v0 < 4294967296 ∧ u1 ≤ v1 ∧ fP (-σ) u0 v0 X Y + fP σ u1 v1 X Y ≤ X ∧ fP σ u1 v1 X Y ≤ fP (-σ) u0 v0 X Y ∧ Int.gcd (fP (-σ) u0 v0 X Y) (fP σ u1 v1 X Y) = Nat.gcd X Y)

theorem FS.start {X Y H a b xl yl : Nat} (hX : X = a * H + xl) (hY : Y = b * H + yl) (hab : b ≤ a) (ha : a < 18446744073709551616) : FS X Y H xl yl 1 a b 0 1 0 0 0 1 := by
  refine ⟨.inl rfl, hab, by omega, by omega, by omega, by omega, .inl rfl, by omega, ?_, ?_, ?_, ?_, ?_, .inl rfl, .inl rfl⟩
  · simp [fP]; rw [hX]; simp
  · simp [fP]; rw [hY]; simp
  · simp [fP]
  · simp [fP]
  · simp [fP]

theorem low_bound {u v xl yl H : Nat} (h : u ≤ v) (hx : xl < H) (hy : yl < H) (σ : Int) (hs : σ = 1 ∨ σ = -1) : -((v : Int) * H) ≤ fP σ u v xl yl := by
  have h1 : (u : Int) * xl ≤ (v : Int) * H := by
    have := Nat.mul_le_mul h (Nat.le_of_lt hx)
    exact_mod_cast this
  have h2 : (v : Int) * yl ≤ (v : Int) * H := by
    have := Nat.mul_le_mul (Nat.le_refl v) (Nat.le_of_lt hy)
    exact_mod_cast this
  have h3 : 0 ≤ (u : Int) * xl := by exact_mod_cast Nat.zero_le (u * xl)
  have h4 : 0 ≤ (v : Int) * yl := by exact_mod_cast Nat.zero_le (v * yl)
  unfold fP
  generalize (u : Int) * xl = A at *
  generalize (v : Int) * yl = B at *
  generalize (v : Int) * H = C at *
  rcases hs with rfl | rfl <;> omega

theorem FS.Q0 {X Y H xl yl a b u0 u1 u2 v0 v1 v2 : Nat} {σ : Int} (S : FS X Y H xl yl σ a b u0 u1 u2 v0 v1 v2) (hx : xl < H) (hy : yl < H) (c1 : v2 ≤ b) : 0 ≤ fP (-σ) u2 v2 X Y := by
  have h1 := low_bound S.uv2 hx hy (-σ) (by rcases S.sg with h | h <;> subst h <;> simp)
  rw [S.eQ]
  have h2 : (v2 : Int) * H ≤ (b : Int) * H := by exact_mod_cast Nat.mul_le_mul_right H c1
  generalize (v2 : Int) * H = C at *
  generalize (b : Int) * H = D at *
  omega

theorem FS.PQ {X Y H xl yl a b u0 u1 u2 v0 v1 v2 : Nat} {σ : Int} (S : FS X Y H xl yl σ a b u0 u1 u2 v0 v1 v2) (hx : xl < H) (hy : yl < H) (c2 : v1 + v2 ≤ a - b) : fP (-σ) u2 v2 X Y ≤ fP σ u1 v1 X Y := by
  have h1 := low_bound S.uvs hx hy σ S.sg
  rw [S.eQ, S.eP]
  have h2 : ((v1 + v2 : Nat) : Int) * H + (b : Int) * H ≤ (a : Int) * H := by
    have h3 : (v1 + v2) * H + b * H ≤ a * H := by rw [← Nat.add_mul]; exact Nat.mul_le_mul_right _ (by have := S.v2p; omega)
    exact_mod_cast h3
  have e : fP σ (u1 + u2) (v1 + v2) xl yl = fP σ u1 v1 xl yl - fP (-σ) u2 v2 xl yl := by unfold fP; grind
  rw [e] at h1
  generalize ((v1 + v2 : Nat) : Int) * H = C at *
  generalize (b : Int) * H = D at *
  generalize (a : Int) * H = E at *
  omega

theorem FS.vb {X Y H xl yl a b u0 u1 u2 v0 v1 v2 : Nat} {σ : Int} (S : FS X Y H xl yl σ a b u0 u1 u2 v0 v1 v2) (c1 : v2 ≤ b) : v2 < 4294967296 := by
  rcases Nat.lt_or_ge v2 4294967296 with h | h
  · exact h
  · exfalso
    have h1 := S.idn
    have h2 : 4294967296 * 4294967296 ≤ a * v2 := Nat.mul_le_mul (by have := S.ab; omega) h
    omega

/-- What is reckoned in a step has room. -/
theorem FS.big {X Y H xl yl a b u0 u1 u2 v0 v1 v2 : Nat} {σ : Int} (S : FS X Y H xl yl σ a b u0 u1 u2 v0 v1 v2) (hb : 0 < b) :
    b * (v1 + a / b * v2) + a % b * v2 < 18446744073709551616 ∧ v1 + a / b * v2 < 18446744073709551616 ∧ u1 + a / b * u2 < 18446744073709551616 ∧ a / b * v2 < 18446744073709551616 ∧ a / b * u2 < 18446744073709551616 ∧ (b ≤ a → 1 ≤ a / b) := by
  have h := Nat.div_add_mod a b
  have hq : b ≤ a → 1 ≤ a / b := fun h => (Nat.le_div_iff_mul_le hb).2 (by omega)
  generalize a / b = q at *
  generalize a % b = r at *
  have e : b * (v1 + q * v2) + r * v2 = a * v2 + b * v1 := by rw [← h]; grind
  have hi := S.idn
  have hm : 1 * (v1 + q * v2) ≤ b * (v1 + q * v2) := Nat.mul_le_mul_right _ hb
  have h1 : v1 + q * v2 < 18446744073709551616 := by omega
  have hq1 := hq S.ab
  have h3 : u1 + q * u2 ≤ v1 + q * v2 := by
    obtain ⟨p, rfl⟩ : ∃ p, q = p + 1 := ⟨q - 1, by omega⟩
    have := Nat.mul_le_mul_left p S.uv2
    have := S.uvs
    rw [Nat.add_mul, Nat.add_mul]; omega
  exact ⟨by omega, h1, by omega, by omega, by omega, hq⟩

theorem FS.step {X Y H xl yl a b u0 u1 u2 v0 v1 v2 : Nat} {σ : Int} (S : FS X Y H xl yl σ a b u0 u1 u2 v0 v1 v2) (hx : xl < H) (hy : yl < H) (c1 : v2 ≤ b) (c2 : v1 + v2 ≤ a - b) :
    FS X Y H xl yl (-σ) b (a % b) u1 u2 (u1 + a / b * u2) v1 v2 (v1 + a / b * v2) := by
  have hb : 0 < b := by have := S.v2p; omega
  have hQ0 := S.Q0 hx hy c1
  have hPQ := S.PQ hx hy c2
  have hvb := S.vb c1
  obtain ⟨g1, g2, g3, g4, g5, g6⟩ := S.big hb
  have hq := g6 S.ab
  have hmod : a % b < b := Nat.mod_lt _ hb
  have h := Nat.div_add_mod a b
  have eQ' : ∀ x y : Nat, fP (- -σ) (u1 + a / b * u2) (v1 + a / b * v2) x y = fP σ u1 v1 x y - ((a / b : Nat) : Int) * fP (-σ) u2 v2 x y := by
    intro x y; unfold fP; push_cast; grind
  generalize a / b = q at *
  generalize a % b = r at *
  have hqq : (1 : Int) ≤ (q : Int) := by omega
  have hmul : fP (-σ) u2 v2 X Y ≤ (q : Int) * fP (-σ) u2 v2 X Y := by
    have := Int.mul_le_mul_of_nonneg_right hqq hQ0
    omega
  refine ⟨by rcases S.sg with h | h <;> subst h <;> simp, by omega, by omega, ?_, ?_, ?_, .inr S.uv2, hvb, S.eQ, ?_, hQ0, ?_, ?_, ?_, ?_⟩
  · have := S.v2p
    have : 1 * v2 ≤ q * v2 := Nat.mul_le_mul_right _ hq
    omega
  · obtain ⟨p, rfl⟩ : ∃ p, q = p + 1 := ⟨q - 1, by omega⟩
    have := Nat.mul_le_mul_left p S.uv2
    have := S.uvs
    rw [Nat.add_mul, Nat.add_mul]; omega
  · have := Nat.mul_le_mul_left q S.uv2
    have := S.uvs
    omega
  · rw [eQ', eQ', S.eP, S.eQ]
    have e : (a : Int) = (b : Int) * q + r := by rw [← h]; push_cast; rfl
    rw [e]; grind
  · have := S.PX; omega
  · rw [eQ', Int.gcd_sub_mul_right_right, Int.gcd_comm]; exact S.gc
  · right
    rw [eQ']
    have := S.PX; omega
  · rcases S.uv1 with h0 | h0
    · exact .inl h0
    · by_cases hz : v1 = 0
      · exact .inl hz
      · right
        refine ⟨h0, S.v1b, S.uv2, ?_, ?_, ?_⟩
        · rw [Int.neg_neg]
          rcases S.QX with h | h
          · exact absurd h hz
          · omega
        · rw [Int.neg_neg]; exact hPQ
        · rw [Int.neg_neg]; exact S.gc

/-- What was foreseen, in natural numbers: steps that lead to R and P. -/
def Foreseen (X Y : Nat) (odd : Bool) (u0 u1 v0 v1 : Nat) : Prop :=
  u0 < 4294967296 ∧ u1 < 4294967296 ∧ v0 < 4294967296 ∧ v1 < 4294967296 ∧ ∃ R P : Nat, P ≤ R ∧ R + P ≤ X ∧ Nat.gcd R P = Nat.gcd X Y ∧
    (if odd then R + u0 * X = v0 * Y ∧ P + v1 * Y = u1 * X else R + v0 * Y = u0 * X ∧ P + u1 * X = v1 * Y)

theorem FS.done {X Y H xl yl a b u0 u1 u2 v0 v1 v2 : Nat} {odd : Bool} (S : FS X Y H xl yl (if odd then 1 else -1) a b u0 u1 u2 v0 v1 v2) : v0 = 0 ∨ Foreseen X Y odd u0 u1 v0 v1 := by
  rcases S.back with h | ⟨h1, h2, h3, h4, h5, h6⟩
  · exact .inl h
  · right
    have hv1 := S.v1b
    have hP := S.P0
    refine ⟨by omega, by omega, h2, hv1, (fP (-(if odd then 1 else -1)) u0 v0 X Y).toNat, (fP (if odd then 1 else -1) u1 v1 X Y).toNat, by omega, by omega, ?_, ?_⟩
    · rw [← h6]
      have e1 : fP (-(if odd then 1 else -1)) u0 v0 X Y = ((fP (-(if odd then 1 else -1)) u0 v0 X Y).toNat : Int) := by omega
      have e2 : fP (if odd then 1 else -1) u1 v1 X Y = ((fP (if odd then 1 else -1) u1 v1 X Y).toNat : Int) := by omega
      conv => rhs; rw [e1, e2]
      rw [Int.gcd_natCast_natCast]
    · have c1 : ((u0 * X : Nat) : Int) = (u0 : Int) * X := by push_cast; rfl
      have c2 : ((v0 * Y : Nat) : Int) = (v0 : Int) * Y := by push_cast; rfl
      have c3 : ((u1 * X : Nat) : Int) = (u1 : Int) * X := by push_cast; rfl
      have c4 : ((v1 * Y : Nat) : Int) = (v1 : Int) * Y := by push_cast; rfl
      have hR : 0 ≤ fP (-(if odd then 1 else -1)) u0 v0 X Y := by omega
      clear h4 h5 h6 S
      cases odd
      · simp only [fP, Bool.false_eq_true, if_false] at *
        rw [← c1, ← c2] at hR ⊢
        rw [← c3, ← c4] at hP ⊢
        generalize u0 * X = A at *
        generalize v0 * Y = B at *
        generalize u1 * X = C at *
        generalize v1 * Y = D at *
        omega
      · simp only [fP, if_true] at *
        rw [← c1, ← c2] at hR ⊢
        rw [← c3, ← c4] at hP ⊢
        generalize u0 * X = A at *
        generalize v0 * Y = B at *
        generalize u1 * X = C at *
        generalize v1 * Y = D at *
        omega

end Go.Proofs.YtfegepkhfckamaaGreatDoor

namespace Go.Proofs.YtfegepkhfckamaaGreatDoor
open Go.RowKit
set_option linter.unusedVariables false

theorem mod_join (v T Q R x2 : Nat) (hQR : Q * R = 18446744073709551616) (hv : v < 18446744073709551616) (hQ : Q ∣ 4294967296) (hQ0 : 0 < Q) (hx : x2 = T % 4294967296) :
    v / Q + x2 * R % 18446744073709551616 = (v + 18446744073709551616 * T) / Q % 18446744073709551616 ∧ v / Q < R ∧ x2 * R % 18446744073709551616 % R = 0 := by
  have hR0 : 0 < R := by
    rcases Nat.eq_zero_or_pos R with h | h
    · rw [h] at hQR; omega
    · exact h
  have hvq : v / Q < R := by rw [Nat.div_lt_iff_lt_mul hQ0, Nat.mul_comm, hQR]; exact hv
  have e1 : (v + 18446744073709551616 * T) / Q = v / Q + R * T := by
    rw [← hQR, Nat.mul_assoc, Nat.add_mul_div_left _ _ hQ0]
  have ed : x2 % Q = T % Q := by rw [hx, Nat.mod_mod_of_dvd _ hQ]
  have e2 : x2 * R % 18446744073709551616 = (T % Q) * R := by
    rw [← hQR, Nat.mul_mod_mul_right, ed]
  have hd : T % Q < Q := Nat.mod_lt _ hQ0
  have hT := Nat.div_add_mod T Q
  generalize T % Q = d at *
  generalize T / Q = c at *
  refine ⟨?_, hvq, by rw [e2]; exact Nat.mul_mod_left _ _⟩
  rw [e1, e2]
  have e3 : R * T = R * d + 18446744073709551616 * c := by rw [← hT, ← hQR]; grind
  have hb : (d + 1) * R ≤ Q * R := Nat.mul_le_mul_right _ hd
  rw [e3, ← Nat.add_assoc, Nat.add_mul_mod_self_left, Nat.mod_eq_of_lt]
  · rw [Nat.mul_comm R d]
  · rw [hQR, Nat.add_mul] at hb
    rw [Nat.mul_comm R d]; omega

end Go.Proofs.YtfegepkhfckamaaGreatDoor

namespace Go.Proofs.YtfegepkhfckamaaGreatDoor
open Go.RowKit
set_option linter.unusedVariables false

theorem or64 (a b k : Nat) (ha : a < 18446744073709551616) (hb : b < 18446744073709551616) (hk : a < 2 ^ k) (hd : b % 2 ^ k = 0) : bits .or .u64 (a : Int) (b : Int) = ((a + b : Nat) : Int) := by
  rw [u64_or_nat _ _ ha hb, Nat.or_comm, nat_join k _ _ hd hk, Nat.add_comm]

/-- The limbs from i on. -/
theorem limbs_from (V i : Nat) : V / 4294967296 ^ i % 4294967296 + V / 4294967296 ^ (i + 1) % 4294967296 * 4294967296 = V / 4294967296 ^ i % 18446744073709551616 ∧ V / 4294967296 ^ (i + 2) % 4294967296 = V / 4294967296 ^ i / 18446744073709551616 % 4294967296 := by
  have e1 : V / 4294967296 ^ (i + 1) = V / 4294967296 ^ i / 4294967296 := by rw [Nat.pow_succ, Nat.div_div_eq_div_mul]
  have e2 : V / 4294967296 ^ (i + 2) = V / 4294967296 ^ i / 18446744073709551616 := by rw [Nat.pow_succ, Nat.pow_succ, Nat.div_div_eq_div_mul, Nat.mul_assoc]
  rw [e1, e2]
  generalize V / 4294967296 ^ i = W
  omega

theorem bits_at {V i p x2 : Nat} (hp : p < 32) (hx : x2 = V / 4294967296 ^ (i + 2) % 4294967296) :
    V / 4294967296 ^ i % 18446744073709551616 / 2 ^ p + x2 * 2 ^ (64 - p) % 18446744073709551616 = V / 2 ^ (32 * i + p) % 18446744073709551616 ∧ V / 4294967296 ^ i % 18446744073709551616 / 2 ^ p < 2 ^ (64 - p) ∧ x2 * 2 ^ (64 - p) % 18446744073709551616 % 2 ^ (64 - p) = 0 := by
  rw [(limbs_from V i).2] at hx
  have hQR : 2 ^ p * 2 ^ (64 - p) = 18446744073709551616 := by rw [← Nat.pow_add, show p + (64 - p) = 64 by omega]
  have hdv : 2 ^ p ∣ 4294967296 := ⟨2 ^ (32 - p), by rw [← Nat.pow_add, show p + (32 - p) = 32 by omega]⟩
  have h := mod_join (V / 4294967296 ^ i % 18446744073709551616) (V / 4294967296 ^ i / 18446744073709551616) (2 ^ p) (2 ^ (64 - p)) x2 hQR (Nat.mod_lt _ (by omega)) hdv (Nat.two_pow_pos _) hx
  refine ⟨?_, h.2⟩
  rw [h.1, Nat.mod_add_div, Nat.pow_add, ← pow32, ← Nat.div_div_eq_div_mul]

end Go.Proofs.YtfegepkhfckamaaGreatDoor

namespace Go.Proofs.YtfegepkhfckamaaGreatDoor
open Go.RowKit
set_option linter.unusedVariables false

/-- One round of a difference of two multiples. -/
theorem diff_step {P X Y Z p m cp cm b b' a y r : Nat} (h : p * X + (b + cm) * P = Z + m * Y + cp * P) (e : (cp + p * a) % 4294967296 + b' * 4294967296 = r + (b + (cm + m * y) % 4294967296)) :
    p * (X + P * a) + (b' + (cm + m * y) / 4294967296) * (P * 4294967296) = Z + P * r + m * (Y + P * y) + (cp + p * a) / 4294967296 * (P * 4294967296) := by
  have h1 := Nat.div_add_mod (cp + p * a) 4294967296
  have h2 := Nat.div_add_mod (cm + m * y) 4294967296
  generalize (cp + p * a) / 4294967296 = c1 at *
  generalize (cm + m * y) / 4294967296 = c2 at *
  generalize (cp + p * a) % 4294967296 = d1 at *
  generalize (cm + m * y) % 4294967296 = d2 at *
  have e1 : P * (4294967296 * c1 + d1) = P * (cp + p * a) := by rw [h1]
  have e2 : P * (4294967296 * c2 + d2) = P * (cm + m * y) := by rw [h2]
  have e3 : P * (d1 + b' * 4294967296) = P * (r + (b + d2)) := by rw [e]
  grind

theorem diff_low (s t b : Nat) (hb : b ≤ 1) :
    ∃ r b' : Nat, r < 4294967296 ∧ b' ≤ 1 ∧ s % 4294967296 + b' * 4294967296 = r + (b + t % 4294967296) ∧ IntKind.u64.wrap (IntKind.u64.wrap ((s : Int) % 4294967296 - (t : Int) % 4294967296) - b) / 9223372036854775808 = (b' : Int) ∧ IntKind.u64.wrap (IntKind.u64.wrap ((s : Int) % 4294967296 - (t : Int) % 4294967296) - b) % 4294967296 = (r : Int) := by
  have h := sub_low (s % 4294967296) t b (by omega) hb
  rw [Int.natCast_emod] at h
  exact h

end Go.Proofs.YtfegepkhfckamaaGreatDoor
