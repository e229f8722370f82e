/- Plain mathematics of Lehmer's way: steps of Euclid's way that are foreseen from the top bits lead to the same greatest common divisor, and go down. Nothing of the program is named here. -/
/- Contracts of nat's bitsFrom and foresee. -/
/- Contract of nat's bitsFrom. -/
/- Contract of nat's difference.next. -/
import Derived.Test.YtcfhajnboamnnaaGreatDoorKE
import Derived.Test.YtcfhajnboamnnaaGreatDoorKD
import Derived.Test.YtcfhajnboamnnaaGreatDoorYXB1
namespace Go.Proofs.YtcfhajnboamnnaaGreatDoor

/-- σ times (u X - v Y). -/
def fP (σ : Int) (u v X Y : Nat) : Int := σ * ((u : Int) * X - (v : Int) * Y)

/-- Where foreseeing stands. -/
structure FS (X Y H xl yl : Nat) (σ : Int) (a b u0 u1 u2 v0 v1 v2 : Nat) : Prop where
  sg : σ = 1 ∨ σ = -1
  ab : b ≤ a
  idn : a * v2 + b * v1 < 18446744073709551616
  v2p : 1 ≤ v2
  uv2 : u2 ≤ v2
  uvs : u1 + u2 ≤ v1 + v2
  uv1 : v1 = 0 ∨ u1 ≤ v1
  v1b : v1 < 4294967296
  eP : fP σ u1 v1 X Y = (a : Int) * H + fP σ u1 v1 xl yl
  eQ : fP (-σ) u2 v2 X Y = (b : Int) * H + fP (-σ) u2 v2 xl yl
  P0 : 0 ≤ fP σ u1 v1 X Y
  PX : fP σ u1 v1 X Y ≤ X
  gc : Int.gcd (fP σ u1 v1 X Y) (fP (-σ) u2 v2 X Y) = Nat.gcd X Y
  QX : v1 = 0 ∨ fP (-σ) u2 v2 X Y + fP σ u1 v1 X Y ≤ X
  back : v0 = 0 ∨ (u0 ≤ v0 ∧ v0 < 4294967296 ∧ u1 ≤ v1 ∧ fP (-σ) u0 v0 X Y + fP σ u1 v1 X Y ≤ X ∧ fP σ u1 v1 X Y ≤ fP (-σ) u0 v0 X Y ∧ Int.gcd (fP (-σ) u0 v0 X Y) (fP σ u1 v1 X Y) = Nat.gcd X Y)

theorem FS.start {X Y H a b xl yl : Nat} (hX : X = a * H + xl) (hY : Y = b * H + yl) (hab : b ≤ a) (ha : a < 18446744073709551616) : FS X Y H xl yl 1 a b 0 1 0 0 0 1 := by
  refine ⟨.inl rfl, hab, by omega, by omega, by omega, by omega, .inl rfl, by omega, ?_, ?_, ?_, ?_, ?_, .inl rfl, .inl rfl⟩
  · simp [fP]; rw [hX]; simp
  · simp [fP]; rw [hY]; simp
  · simp [fP]
  · simp [fP]
  · simp [fP]

theorem low_bound {u v xl yl H : Nat} (h : u ≤ v) (hx : xl < H) (hy : yl < H) (σ : Int) (hs : σ = 1 ∨ σ = -1) : -((v : Int) * H) ≤ fP σ u v xl yl := by
  have h1 : (u : Int) * xl ≤ (v : Int) * H := by
    have := Nat.mul_le_mul h (Nat.le_of_lt hx)
    exact_mod_cast this
  have h2 : (v : Int) * yl ≤ (v : Int) * H := by
    have := Nat.mul_le_mul (Nat.le_refl v) (Nat.le_of_lt hy)
    exact_mod_cast this
  have h3 : 0 ≤ (u : Int) * xl := by exact_mod_cast Nat.zero_le (u * xl)
  have h4 : 0 ≤ (v : Int) * yl := by exact_mod_cast Nat.zero_le (v * yl)
  unfold fP
  generalize (u : Int) * xl = A at *
  generalize (v : Int) * yl = B at *
  generalize (v : Int) * H = C at *
  rcases hs with rfl | rfl <;> omega

theorem FS.Q0 {X Y H xl yl a b u0 u1 u2 v0 v1 v2 : Nat} {σ : Int} (S : FS X Y H xl yl σ a b u0 u1 u2 v0 v1 v2) (hx : xl < H) (hy : yl < H) (c1 : v2 ≤ b) : 0 ≤ fP (-σ) u2 v2 X Y := by
  have h1 := low_bound S.uv2 hx hy (-σ) (by rcases S.sg with h | h <;> subst h <;> simp)
  rw [S.eQ]
  have h2 : (v2 : Int) * H ≤ (b : Int) * H := by exact_mod_cast Nat.mul_le_mul_right H c1
  generalize (v2 : Int) * H = C at *
  generalize (b : Int) * H = D at *
  omega

theorem FS.PQ {X Y H xl yl a b u0 u1 u2 v0 v1 v2 : Nat} {σ : Int} (S : FS X Y H xl yl σ a b u0 u1 u2 v0 v1 v2) (hx : xl < H) (hy : yl < H) (c2 : v1 + v2 ≤ a - b) : fP (-σ) u2 v2 X Y ≤ fP σ u1 v1 X Y := by
  have h1 := low_bound S.uvs hx hy σ S.sg
  rw [S.eQ, S.eP]
  have h2 : ((v1 + v2 : Nat) : Int) * H + (b : Int) * H ≤ (a : Int) * H := by
    have h3 : (v1 + v2) * H + b * H ≤ a * H := by rw [← Nat.add_mul]; exact Nat.mul_le_mul_right _ (by have := S.v2p; omega)
    exact_mod_cast h3
  have e : fP σ (u1 + u2) (v1 + v2) xl yl = fP σ u1 v1 xl yl - fP (-σ) u2 v2 xl yl := by unfold fP; grind
  rw [e] at h1
  generalize ((v1 + v2 : Nat) : Int) * H = C at *
  generalize (b : Int) * H = D at *
  generalize (a : Int) * H = E at *
  omega

theorem FS.vb {X Y H xl yl a b u0 u1 u2 v0 v1 v2 : Nat} {σ : Int} (S : FS X Y H xl yl σ a b u0 u1 u2 v0 v1 v2) (c1 : v2 ≤ b) : v2 < 4294967296 := by
  rcases Nat.lt_or_ge v2 4294967296 with h | h
  · exact h
  · exfalso
    have h1 := S.idn
    have h2 : 4294967296 * 4294967296 ≤ a * v2 := Nat.mul_le_mul (by have := S.ab; omega) h
    omega

/-- What is reckoned in a step has room. -/
theorem FS.big {X Y H xl yl a b u0 u1 u2 v0 v1 v2 : Nat} {σ : Int} (S : FS X Y H xl yl σ a b u0 u1 u2 v0 v1 v2) (hb : 0 < b) :
    b * (v1 + a / b * v2) + a % b * v2 < 18446744073709551616 ∧ v1 + a / b * v2 < 18446744073709551616 ∧ u1 + a / b * u2 < 18446744073709551616 ∧ a / b * v2 < 18446744073709551616 ∧ a / b * u2 < 18446744073709551616 ∧ (b ≤ a → 1 ≤ a / b) := by
  have h := Nat.div_add_mod a b
  have hq : b ≤ a → 1 ≤ a / b := fun h => (Nat.le_div_iff_mul_le hb).2 (by omega)
  generalize a / b = q at *
  generalize a % b = r at *
  have e : b * (v1 + q * v2) + r * v2 = a * v2 + b * v1 := by rw [← h]; grind
  have hi := S.idn
  have hm : 1 * (v1 + q * v2) ≤ b * (v1 + q * v2) := Nat.mul_le_mul_right _ hb
  have h1 : v1 + q * v2 < 18446744073709551616 := by omega
  have hq1 := hq S.ab
  have h3 : u1 + q * u2 ≤ v1 + q * v2 := by
    obtain ⟨p, rfl⟩ : ∃ p, q = p + 1 := ⟨q - 1, by omega⟩
    have := Nat.mul_le_mul_left p S.uv2
    have := S.uvs
    rw [Nat.add_mul, Nat.add_mul]; omega
  exact ⟨by omega, h1, by omega, by omega, by omega, hq⟩

theorem FS.step {X Y H xl yl a b u0 u1 u2 v0 v1 v2 : Nat} {σ : Int} (S : FS X Y H xl yl σ a b u0 u1 u2 v0 v1 v2) (hx : xl < H) (hy : yl < H) (c1 : v2 ≤ b) (c2 : v1 + v2 ≤ a - b) :
    FS X Y H xl yl (-σ) b (a % b) u1 u2 (u1 + a / b * u2) v1 v2 (v1 + a / b * v2) := by
  have hb : 0 < b := by have := S.v2p; omega
  have hQ0 := S.Q0 hx hy c1
  have hPQ := S.PQ hx hy c2
  have hvb := S.vb c1
  obtain ⟨g1, g2, g3, g4, g5, g6⟩ := S.big hb
  have hq := g6 S.ab
  have hmod : a % b < b := Nat.mod_lt _ hb
  have h := Nat.div_add_mod a b
  have eQ' : ∀ x y : Nat, fP (- -σ) (u1 + a / b * u2) (v1 + a / b * v2) x y = fP σ u1 v1 x y - ((a / b : Nat) : Int) * fP (-σ) u2 v2 x y := by
    intro x y; unfold fP; push_cast; grind
  generalize a / b = q at *
  generalize a % b = r at *
  have hqq : (1 : Int) ≤ (q : Int) := by omega
  have hmul : fP (-σ) u2 v2 X Y ≤ (q : Int) * fP (-σ) u2 v2 X Y := by
    have := Int.mul_le_mul_of_nonneg_right hqq hQ0
    omega
  refine ⟨by rcases S.sg with h | h <;> subst h <;> simp, by omega, by omega, ?_, ?_, ?_, .inr S.uv2, hvb, S.eQ, ?_, hQ0, ?_, ?_, ?_, ?_⟩
  · have := S.v2p
    have : 1 * v2 ≤ q * v2 := Nat.mul_le_mul_right _ hq
    omega
  · obtain ⟨p, rfl⟩ : ∃ p, q = p + 1 := ⟨q - 1, by omega⟩
    have := Nat.mul_le_mul_left p S.uv2
    have := S.uvs
    rw [Nat.add_mul, Nat.add_mul]; omega
  · have := Nat.mul_le_mul_left q S.uv2
    have := S.uvs
    omega
  · rw [eQ', eQ', S.eP, S.eQ]
    have e : (a : Int) = (b : Int) * q + r := by rw [← h]; push_cast; rfl
    rw [e]; grind
  · have := S.PX; omega
  · rw [eQ', Int.gcd_sub_mul_right_right, Int.gcd_comm]; exact S.gc
  · right
    rw [eQ']
    have := S.PX; omega
  · rcases S.uv1 with h0 | h0
    · exact .inl h0
    · by_cases hz : v1 = 0
      · exact .inl hz
      · right
        refine ⟨h0, S.v1b, S.uv2, ?_, ?_, ?_⟩
        · rw [Int.neg_neg]
          rcases S.QX with h | h
          · exact absurd h hz
          · omega
        · rw [Int.neg_neg]; exact hPQ
        · rw [Int.neg_neg]; exact S.gc

/-- What was foreseen, in natural numbers: steps that lead to R and P. -/
def Foreseen (X Y : Nat) (odd : Bool) (u0 u1 v0 v1 : Nat) : Prop :=
  u0 < 4294967296 ∧ u1 < 4294967296 ∧ v0 < 4294967296 ∧ v1 < 4294967296 ∧ ∃ R P : Nat, P ≤ R ∧ R + P ≤ X ∧ Nat.gcd R P = Nat.gcd X Y ∧
    (if odd then R + u0 * X = v0 * Y ∧ P + v1 * Y = u1 * X else R + v0 * Y = u0 * X ∧ P + u1 * X = v1 * Y)

theorem FS.done {X Y H xl yl a b u0 u1 u2 v0 v1 v2 : Nat} {odd : Bool} (S : FS X Y H xl yl (if odd then 1 else -1) a b u0 u1 u2 v0 v1 v2) : v0 = 0 ∨ Foreseen X Y odd u0 u1 v0 v1 := by
  rcases S.back with h | ⟨h1, h2, h3, h4, h5, h6⟩
  · exact .inl h
  · right
    have hv1 := S.v1b
    have hP := S.P0
    refine ⟨by omega, by omega, h2, hv1, (fP (-(if odd then 1 else -1)) u0 v0 X Y).toNat, (fP (if odd then 1 else -1) u1 v1 X Y).toNat, by omega, by omega, ?_, ?_⟩
    · rw [← h6]
      have e1 : fP (-(if odd then 1 else -1)) u0 v0 X Y = ((fP (-(if odd then 1 else -1)) u0 v0 X Y).toNat : Int) := by omega
      have e2 : fP (if odd then 1 else -1) u1 v1 X Y = ((fP (if odd then 1 else -1) u1 v1 X Y).toNat : Int) := by omega
      conv => rhs; rw [e1, e2]
      rw [Int.gcd_natCast_natCast]
    · have c1 : ((u0 * X : Nat) : Int) = (u0 : Int) * X := by push_cast; rfl
      have c2 : ((v0 * Y : Nat) : Int) = (v0 : Int) * Y := by push_cast; rfl
      have c3 : ((u1 * X : Nat) : Int) = (u1 : Int) * X := by push_cast; rfl
      have c4 : ((v1 * Y : Nat) : Int) = (v1 : Int) * Y := by push_cast; rfl
      have hR : 0 ≤ fP (-(if odd then 1 else -1)) u0 v0 X Y := by omega
      clear h4 h5 h6 S
      cases odd
      · simp only [fP, Bool.false_eq_true, if_false] at *
        rw [← c1, ← c2] at hR ⊢
        rw [← c3, ← c4] at hP ⊢
        generalize u0 * X = A at *
        generalize v0 * Y = B at *
        generalize u1 * X = C at *
        generalize v1 * Y = D at *
        omega
      · simp only [fP, if_true] at *
        rw [← c1, ← c2] at hR ⊢
        rw [← c3, ← c4] at hP ⊢
        generalize u0 * X = A at *
        generalize v0 * Y = B at *
        generalize u1 * X = C at *
        generalize v1 * Y = D at *
        omega

end Go.Proofs.YtcfhajnboamnnaaGreatDoor

namespace Go.Proofs.YtcfhajnboamnnaaGreatDoor
open Go.RowKit
set_option linter.unusedVariables false

theorem mod_join (v T Q R x2 : Nat) (hQR : Q * R = 18446744073709551616) (hv : v < 18446744073709551616) (hQ : Q ∣ 4294967296) (hQ0 : 0 < Q) (hx : x2 = T % 4294967296) :
    v / Q + x2 * R % 18446744073709551616 = (v + 18446744073709551616 * T) / Q % 18446744073709551616 ∧ v / Q < R ∧ x2 * R % 18446744073709551616 % R = 0 := by
  have hR0 : 0 < R := by
    rcases Nat.eq_zero_or_pos R with h | h
    · rw [h] at hQR; omega
    · exact h
  have hvq : v / Q < R := by rw [Nat.div_lt_iff_lt_mul hQ0, Nat.mul_comm, hQR]; exact hv
  have e1 : (v + 18446744073709551616 * T) / Q = v / Q + R * T := by
    rw [← hQR, Nat.mul_assoc, Nat.add_mul_div_left _ _ hQ0]
  have ed : x2 % Q = T % Q := by rw [hx, Nat.mod_mod_of_dvd _ hQ]
  have e2 : x2 * R % 18446744073709551616 = (T % Q) * R := by
    rw [← hQR, Nat.mul_mod_mul_right, ed]
  have hd : T % Q < Q := Nat.mod_lt _ hQ0
  have hT := Nat.div_add_mod T Q
  generalize T % Q = d at *
  generalize T / Q = c at *
  refine ⟨?_, hvq, by rw [e2]; exact Nat.mul_mod_left _ _⟩
  rw [e1, e2]
  have e3 : R * T = R * d + 18446744073709551616 * c := by rw [← hT, ← hQR]; grind
  have hb : (d + 1) * R ≤ Q * R := Nat.mul_le_mul_right _ hd
  rw [e3, ← Nat.add_assoc, Nat.add_mul_mod_self_left, Nat.mod_eq_of_lt]
  · rw [Nat.mul_comm R d]
  · rw [hQR, Nat.add_mul] at hb
    rw [Nat.mul_comm R d]; omega

set_option maxHeartbeats 4000000 in
theorem foresee_any (w : World) {X Y H xl yl a b : Nat} (hX : X = a * H + xl) (hY : Y = b * H + yl) (hx : xl < H) (hy : yl < H) (hab : b ≤ a) (ha : a < 18446744073709551616) :
    Calls Tryz.prog 94 #[.int .u64 a, .int .u64 b] w fun e w' => ∃ (u0 u1 v0 v1 : Nat) (odd : Bool), e = .returned (.agg #[.int .u64 u0, .int .u64 u1, .int .u64 v0, .int .u64 v1, .bool odd]) ∧ Fwd w w' ∧ (v0 = 0 ∨ Foreseen X Y odd u0 u1 v0 v1) := by
  have HS := hid (FS.start hX hY hab ha)
  have HXY := hid (And.intro hx hy)
  clear hX hY hx hy
  go_enter Tryz.func94, Tryz.ntmps94
  go_wp2
  go_loopw [0, 1, 6, 7] (fun va vb x y wr => ∃ (A B u0 u1 u2 v0 v1 v2 : Nat) (odd : Bool), va = .int .u64 A ∧ vb = .int .u64 B ∧ x = .int .u64 u2 ∧ y = .int .u64 v2 ∧
      BlkV wr (w.heap.size + 1) 107 [.int .u64 u0, .int .u64 u1, .int .u64 v0, .int .u64 v1, .bool odd] ∧ BlkV wr w.heap.size 107 [.int .u64 0, .int .u64 0, .int .u64 0, .int .u64 0, .bool false] ∧ Fwd w wr ∧
      FS X Y H xl yl (if odd then 1 else -1) A B u0 u1 u2 v0 v1 v2 ∧ A < 18446744073709551616 ∧ u2 < 18446744073709551616 ∧ v2 < 18446744073709551616) (fun _ b _ _ _ => (intOf b).toNat)
  case atStart =>
    exact ⟨a, b, 0, 1, 0, 0, 0, 1, true, rfl, rfl, rfl, rfl, BlkV.made2 w _ _ _, (BlkV.made w _ _).alloc _, ((Fwd.refl w).alloc _).alloc _, HS.out, ha, by omega, by omega⟩
  case round =>
    obtain ⟨A, B, u0, u1, u2, v0, v1, v2, odd, rfl, rfl, rfl, rfl, hb1, hb0, hfw, hS, hA, hu2, hv2⟩ := hrel
    have k0 := hb1.cell 0 rfl
    have k1 := hb1.cell 1 rfl
    have k2 := hb1.cell 2 rfl
    have k3 := hb1.cell 3 rfl
    have k4 := hb1.cell 4 rfl
    have z0 := hb0.cell 0 rfl
    have z1 := hb0.cell 1 rfl
    have z2 := hb0.cell 2 rfl
    have z3 := hb0.cell 3 rfl
    have z4 := hb0.cell 4 rfl
    have p0 := hb1.frozen 0
    have p1 := hb1.frozen 1
    have p2 := hb1.frozen 2
    have p3 := hb1.frozen 3
    have p4 := hb1.frozen 4
    have r0 := hb0.frozen 0
    have r1 := hb0.frozen 1
    have r2 := hb0.frozen 2
    have r3 := hb0.frozen 3
    have r4 := hb0.frozen 4
    have hAB := hS.ab
    have hv1 := hS.v1b
    have HSS := hid hS
    have HBB := hid (And.intro hb1 (And.intro hb0 hfw))
    have HDONE := hid hS.done
    have hA2 : (A : Int) ≤ 18446744073709551615 := by omega
    have hv22 : (v2 : Int) ≤ 18446744073709551615 := by omega
    have hu22 : (u2 : Int) ≤ 18446744073709551615 := by omega
    by_cases c1 : v2 ≤ B
    · have hvb := hS.vb c1
      by_cases c2 : v1 + v2 ≤ A - B
      · have c2' : (v1 : Int) + v2 ≤ (A : Int) - B := by omega
        have hv2p := hS.v2p
        have hB0 : 0 < B := by omega
        obtain ⟨g1, g2, g3, g4, g5, g6⟩ := hS.big hB0
        have HC := hid (And.intro c1 c2)
        have hmod := Nat.mod_lt A hB0
        have eq0 : (A : Int) / (B : Int) = ((A / B : Nat) : Int) := (Int.natCast_ediv _ _).symm
        have er0 : (A : Int) % (B : Int) = ((A % B : Nat) : Int) := (Int.natCast_emod _ _).symm
        have HST := hid (hS.step HXY.out.1 HXY.out.2 c1 c2)
        obtain ⟨q, hq⟩ : ∃ q, q = A / B := ⟨_, rfl⟩
        obtain ⟨r, hr⟩ : ∃ r, r = A % B := ⟨_, rfl⟩
        rw [← hq] at g2 g3 g4 g5 eq0 HST
        rw [← hr] at hmod er0 HST
        have b1 : (q : Int) * (u2 : Int) ≤ 18446744073709551615 := by rw [← Int.natCast_mul]; omega
        have b2 : (0 : Int) ≤ (q : Int) * (u2 : Int) := by rw [← Int.natCast_mul]; omega
        have b3 : (q : Int) * (v2 : Int) ≤ 18446744073709551615 := by rw [← Int.natCast_mul]; omega
        have b4 : (0 : Int) ≤ (q : Int) * (v2 : Int) := by rw [← Int.natCast_mul]; omega
        have b5 : (u1 : Int) + (q : Int) * (u2 : Int) ≤ 18446744073709551615 := by rw [← Int.natCast_mul]; omega
        have b6 : (v1 : Int) + (q : Int) * (v2 : Int) ≤ 18446744073709551615 := by rw [← Int.natCast_mul]; omega
        have hBne : ((B : Int) == 0) = false := by simp; omega
        have bq : (q : Int) ≤ 18446744073709551615 := by
          have := Nat.div_le_self A B
          omega
        have br : (r : Int) ≤ 18446744073709551615 := by omega
        have HG := hid (And.intro g2 g3)
        clear g1 g2 g3 g4 g5 g6 hq hr c2 hS hb1 hb0 hfw z0 z1 z2 z3 z4 r0 r1 r2 r3 r4
        go_wp2_with fail
        go_quiet (fail)
        have hb1 := HBB.out.1.drewN nq
        have hb0 := HBB.out.2.1.drewN nq
        have hfw := HBB.out.2.2.drewN nq
        clear k0 k1 k2 k3 k4 p0 p1 p2 p3 p4 HBB
        generalize wr.drewN nq = wq at *
        have k0 := hb1.cell 0 rfl
        have k1 := hb1.cell 1 rfl
        have k2 := hb1.cell 2 rfl
        have k3 := hb1.cell 3 rfl
        have k4 := hb1.cell 4 rfl
        have p0 := hb1.frozen 0
        have p1 := hb1.frozen 1
        have p2 := hb1.frozen 2
        have p3 := hb1.frozen 3
        have p4 := hb1.frozen 4
        have HBB := hid (And.intro hb1 (And.intro hb0 hfw))
        clear hb1 hb0 hfw
        go_wp2
        go_roundw
        case rel =>
          obtain ⟨hb1, hb0, hfw⟩ := HBB.out
          have hz := ((((hb1.set 0 (.int .u64 (u1 : Int))).set 1 (.int .u64 (u2 : Int))).set 2 (.int .u64 (v1 : Int))).set 3 (.int .u64 (v2 : Int))).set 4 (.bool (!odd))
          have hon : Only (w.heap.size + 1) wq (((((wq.setCell ⟨w.heap.size + 1, 0, none⟩ (.int .u64 (u1 : Int))).setCell ⟨w.heap.size + 1, 1, none⟩ (.int .u64 (u2 : Int))).setCell ⟨w.heap.size + 1, 2, none⟩ (.int .u64 (v1 : Int))).setCell ⟨w.heap.size + 1, 3, none⟩ (.int .u64 (v2 : Int))).setCell ⟨w.heap.size + 1, 4, none⟩ (.bool (!odd))) := ((((Only.set _ _ _ _).setv _ _).setv _ _).setv _ _).setv _ _
          have hsg : -(if odd then (1 : Int) else -1) = (if !odd then 1 else -1) := by cases odd <;> rfl
          have hS2 := HST.out
          rw [hsg] at hS2
          exact ⟨B, r, u1, u2, u1 + q * u2, v1, v2, v1 + q * v2, !odd, rfl, by rw [er0], by simp, by simp, hz, hb0.only hon (by omega), hfw.wrote hon (by omega), hS2, by omega, HG.out.2, HG.out.1⟩
        case measure =>
          rw [er0]; simp [intOf]; omega
      · have c2' : (A : Int) - B < (v1 : Int) + v2 := by omega
        clear hS hb1 hb0 hfw c2
        go_wp2_with fail
        have hz := ((((HBB.out.2.1.set 0 (.int .u64 (u0 : Int))).set 1 (.int .u64 (u1 : Int))).set 2 (.int .u64 (v0 : Int))).set 3 (.int .u64 (v1 : Int))).set 4 (.bool odd)
        have hon : Only w.heap.size wr (((((wr.setCell ⟨w.heap.size, 0, none⟩ (.int .u64 (u0 : Int))).setCell ⟨w.heap.size, 1, none⟩ (.int .u64 (u1 : Int))).setCell ⟨w.heap.size, 2, none⟩ (.int .u64 (v0 : Int))).setCell ⟨w.heap.size, 3, none⟩ (.int .u64 (v1 : Int))).setCell ⟨w.heap.size, 4, none⟩ (.bool odd)) := ((((Only.set _ _ _ _).setv _ _).setv _ _).setv _ _).setv _ _
        generalize ((((wr.setCell ⟨w.heap.size, 0, none⟩ (.int .u64 (u0 : Int))).setCell ⟨w.heap.size, 1, none⟩ (.int .u64 (u1 : Int))).setCell ⟨w.heap.size, 2, none⟩ (.int .u64 (v0 : Int))).setCell ⟨w.heap.size, 3, none⟩ (.int .u64 (v1 : Int))).setCell ⟨w.heap.size, 4, none⟩ (.bool odd) = wz at hz hon ⊢
        have e0 := hz.cell 0 rfl
        have e1 := hz.cell 1 rfl
        have e2 := hz.cell 2 rfl
        have e3 := hz.cell 3 rfl
        have e4 := hz.cell 4 rfl
        refine bodyPost_ret (by simp [results, Tryz.results94, go_sem, e0, e1, e2, e3, e4]; try rfl) rfl ?_
        exact ⟨u0, u1, v0, v1, odd, rfl, HBB.out.2.2.wrote hon (Nat.le_refl _), HDONE.out⟩
    · have c1' : (B : Int) < v2 := by omega
      clear hS hb1 hb0 hfw c1
      go_wp2_with fail
      have hz := ((((HBB.out.2.1.set 0 (.int .u64 (u0 : Int))).set 1 (.int .u64 (u1 : Int))).set 2 (.int .u64 (v0 : Int))).set 3 (.int .u64 (v1 : Int))).set 4 (.bool odd)
      have hon : Only w.heap.size wr (((((wr.setCell ⟨w.heap.size, 0, none⟩ (.int .u64 (u0 : Int))).setCell ⟨w.heap.size, 1, none⟩ (.int .u64 (u1 : Int))).setCell ⟨w.heap.size, 2, none⟩ (.int .u64 (v0 : Int))).setCell ⟨w.heap.size, 3, none⟩ (.int .u64 (v1 : Int))).setCell ⟨w.heap.size, 4, none⟩ (.bool odd)) := ((((Only.set _ _ _ _).setv _ _).setv _ _).setv _ _).setv _ _
      generalize ((((wr.setCell ⟨w.heap.size, 0, none⟩ (.int .u64 (u0 : Int))).setCell ⟨w.heap.size, 1, none⟩ (.int .u64 (u1 : Int))).setCell ⟨w.heap.size, 2, none⟩ (.int .u64 (v0 : Int))).setCell ⟨w.heap.size, 3, none⟩ (.int .u64 (v1 : Int))).setCell ⟨w.heap.size, 4, none⟩ (.bool odd) = wz at hz hon ⊢
      have e0 := hz.cell 0 rfl
      have e1 := hz.cell 1 rfl
      have e2 := hz.cell 2 rfl
      have e3 := hz.cell 3 rfl
      have e4 := hz.cell 4 rfl
      refine bodyPost_ret (by simp [results, Tryz.results94, go_sem, e0, e1, e2, e3, e4]; try rfl) rfl ?_
      exact ⟨u0, u1, v0, v1, odd, rfl, HBB.out.2.2.wrote hon (Nat.le_refl _), HDONE.out⟩

end Go.Proofs.YtcfhajnboamnnaaGreatDoor

namespace Go.Proofs.YtcfhajnboamnnaaGreatDoor
open Go.RowKit
set_option linter.unusedVariables false

theorem or64 (a b k : Nat) (ha : a < 18446744073709551616) (hb : b < 18446744073709551616) (hk : a < 2 ^ k) (hd : b % 2 ^ k = 0) : bits .or .u64 (a : Int) (b : Int) = ((a + b : Nat) : Int) := by
  rw [u64_or_nat _ _ ha hb, Nat.or_comm, nat_join k _ _ hd hk, Nat.add_comm]

/-- The limbs from i on. -/
theorem limbs_from (V i : Nat) : V / 4294967296 ^ i % 4294967296 + V / 4294967296 ^ (i + 1) % 4294967296 * 4294967296 = V / 4294967296 ^ i % 18446744073709551616 ∧ V / 4294967296 ^ (i + 2) % 4294967296 = V / 4294967296 ^ i / 18446744073709551616 % 4294967296 := by
  have e1 : V / 4294967296 ^ (i + 1) = V / 4294967296 ^ i / 4294967296 := by rw [Nat.pow_succ, Nat.div_div_eq_div_mul]
  have e2 : V / 4294967296 ^ (i + 2) = V / 4294967296 ^ i / 18446744073709551616 := by rw [Nat.pow_succ, Nat.pow_succ, Nat.div_div_eq_div_mul, Nat.mul_assoc]
  rw [e1, e2]
  generalize V / 4294967296 ^ i = W
  omega

theorem bits_at {V i p x2 : Nat} (hp : p < 32) (hx : x2 = V / 4294967296 ^ (i + 2) % 4294967296) :
    V / 4294967296 ^ i % 18446744073709551616 / 2 ^ p + x2 * 2 ^ (64 - p) % 18446744073709551616 = V / 2 ^ (32 * i + p) % 18446744073709551616 ∧ V / 4294967296 ^ i % 18446744073709551616 / 2 ^ p < 2 ^ (64 - p) ∧ x2 * 2 ^ (64 - p) % 18446744073709551616 % 2 ^ (64 - p) = 0 := by
  rw [(limbs_from V i).2] at hx
  have hQR : 2 ^ p * 2 ^ (64 - p) = 18446744073709551616 := by rw [← Nat.pow_add, show p + (64 - p) = 64 by omega]
  have hdv : 2 ^ p ∣ 4294967296 := ⟨2 ^ (32 - p), by rw [← Nat.pow_add, show p + (32 - p) = 32 by omega]⟩
  have h := mod_join (V / 4294967296 ^ i % 18446744073709551616) (V / 4294967296 ^ i / 18446744073709551616) (2 ^ p) (2 ^ (64 - p)) x2 hQR (Nat.mod_lt _ (by omega)) hdv (Nat.two_pow_pos _) hx
  refine ⟨?_, h.2⟩
  rw [h.1, Nat.mod_add_div, Nat.pow_add, ← pow32, ← Nat.div_div_eq_div_mul]

set_option maxHeartbeats 4000000 in
theorem bitsFrom_any {w : World} {v : Value} {xs : List Nat} (h : Rd w v xs) (sh : Nat) (hl : sh + 64 ≤ 32 * xs.length) (hl2 : xs.length ≤ 100000000) :
    Calls Tryz.prog 95 #[v, .int .i64 sh] w fun e w' => e = .returned (.int .u64 ((val xs / 2 ^ sh % 18446744073709551616 : Nat) : Int)) ∧ Fwd w w' := by
  obtain ⟨ao, cap, rfl, h1, h2, hok, hc⟩ := h.parts
  unfold maxLen at h2
  obtain ⟨i, hi⟩ : ∃ i, i = sh / 32 := ⟨_, rfl⟩
  obtain ⟨p, hp⟩ : ∃ p, p = sh % 32 := ⟨_, rfl⟩
  have hp32 : p < 32 := by omega
  have hsh : sh = 32 * i + p := by omega
  have ei : (sh : Int) / 32 = (i : Int) := by omega
  have ep : (sh : Int) % 32 = (p : Int) := by omega
  have hil : i + 1 < xs.length := by omega
  have hil2 : p ≠ 0 → i + 2 < xs.length := by omega
  have hil3 : (i : Int) + 1 < xs.length := by omega
  have HSH := hid hsh
  clear hi hp hsh
  obtain ⟨b, off, rfl, hc0⟩ := hc i (by omega)
  obtain ⟨b', off', e', hc1⟩ := hc (i + 1) (by omega)
  cases e'
  have hl0 := limbs_from (val xs) i
  rw [val_mod_pow xs hok, val_mod_pow xs hok, val_mod_pow xs hok] at hl0
  have hx0b := hok.getD i
  have hx1b := hok.getD (i + 1)
  obtain ⟨x0, hx0⟩ : ∃ x, x = xs.getD i 0 := ⟨_, rfl⟩
  obtain ⟨x1, hx1⟩ : ∃ x, x = xs.getD (i + 1) 0 := ⟨_, rfl⟩
  rw [← hx0] at hc0 hx0b hl0
  rw [← hx1] at hc1 hx1b hl0
  have hor := or_join2 x0 x1 hx0b hx1b
  obtain ⟨t, ht⟩ : ∃ t, t = x1 * 4294967296 + x0 := ⟨_, rfl⟩
  rw [← ht] at hor
  have htb : t < 18446744073709551616 := by omega
  have htV : t = val xs / 4294967296 ^ i % 18446744073709551616 := by rw [← hl0.1, ht]; omega
  have HTV := hid htV
  have htb2 := u64_le htb
  clear ht hx0 hx1 htV
  have hc1' : w.cell? ⟨b, off + i + 1, none⟩ = some (.int .u32 (x1 : Int)) := hc1
  by_cases hp0 : p = 0
  · subst hp0
    go_enter Tryz.func95, Tryz.ntmps95
    go_wp2_with fail
    go_quiet (fail)
    go_wp2
    go_ret
    refine ⟨?_, (Fwd.refl w).drewN _⟩
    rw [HTV.out, HSH.out, Nat.add_zero, pow32]
    rfl
  · obtain ⟨b', off', e', hc2⟩ := hc (i + 2) (hil2 hp0)
    cases e'
    have hx2b := hok.getD (i + 2)
    obtain ⟨x2, hx2⟩ : ∃ x, x = xs.getD (i + 2) 0 := ⟨_, rfl⟩
    rw [← hx2] at hc2 hx2b hl0
    have hB := bits_at (V := val xs) (i := i) (x2 := x2) hp32 (by rw [hx2, val_mod_pow xs hok])
    rw [← HTV.out, ← HSH.out] at hB
    have hor2 := or64 (t / 2 ^ p) (x2 * 2 ^ (64 - p) % 18446744073709551616) (64 - p) (by have := Nat.div_le_self t (2 ^ p); omega) (by omega) hB.2.1 hB.2.2
    rw [hB.1] at hor2
    have hp1 : ((p : Int) == 0) = false := by simp; omega
    have hil4 : (i : Int) + 2 < xs.length := by have := hil2 hp0; omega
    clear hB hx2 hc hil2 hl0 hp0
    go_enter Tryz.func95, Tryz.ntmps95
    go_wp2_with fail
    go_quiet (fail)
    go_wp2_with fail
    have hf1 := (Fwd.refl w).drewN nq
    have hc2' := hf1.cell hc2
    have HF1 := hid hf1
    clear hc2 hf1 hc0 hc1 hc1'
    generalize w.drewN nq = wq at *
    have HOR2 := hid hor2
    clear hor2
    go_quiet (fail)
    go_wp2
    go_ret
    refine ⟨?_, HF1.out.drewN _⟩
    have e1 : (x2 : Int) * 2 ^ (64 - p) % 18446744073709551616 = ((x2 * 2 ^ (64 - p) % 18446744073709551616 : Nat) : Int) := by rw [cast_pow2]; simp
    have h3 := HOR2.out
    rw [← e1, ← shr_cast, ← IntKind.wrap_u64] at h3
    exact ret_int h3

end Go.Proofs.YtcfhajnboamnnaaGreatDoor

namespace Go.Proofs.YtcfhajnboamnnaaGreatDoor
open Go.RowKit
set_option linter.unusedVariables false

/-- One round of a difference of two multiples. -/
theorem diff_step {P X Y Z p m cp cm b b' a y r : Nat} (h : p * X + (b + cm) * P = Z + m * Y + cp * P) (e : (cp + p * a) % 4294967296 + b' * 4294967296 = r + (b + (cm + m * y) % 4294967296)) :
    p * (X + P * a) + (b' + (cm + m * y) / 4294967296) * (P * 4294967296) = Z + P * r + m * (Y + P * y) + (cp + p * a) / 4294967296 * (P * 4294967296) := by
  have h1 := Nat.div_add_mod (cp + p * a) 4294967296
  have h2 := Nat.div_add_mod (cm + m * y) 4294967296
  generalize (cp + p * a) / 4294967296 = c1 at *
  generalize (cm + m * y) / 4294967296 = c2 at *
  generalize (cp + p * a) % 4294967296 = d1 at *
  generalize (cm + m * y) % 4294967296 = d2 at *
  have e1 : P * (4294967296 * c1 + d1) = P * (cp + p * a) := by rw [h1]
  have e2 : P * (4294967296 * c2 + d2) = P * (cm + m * y) := by rw [h2]
  have e3 : P * (d1 + b' * 4294967296) = P * (r + (b + d2)) := by rw [e]
  grind

theorem diff_low (s t b : Nat) (hb : b ≤ 1) :
    ∃ r b' : Nat, r < 4294967296 ∧ b' ≤ 1 ∧ s % 4294967296 + b' * 4294967296 = r + (b + t % 4294967296) ∧ IntKind.u64.wrap (IntKind.u64.wrap ((s : Int) % 4294967296 - (t : Int) % 4294967296) - b) / 9223372036854775808 = (b' : Int) ∧ IntKind.u64.wrap (IntKind.u64.wrap ((s : Int) % 4294967296 - (t : Int) % 4294967296) - b) % 4294967296 = (r : Int) := by
  have h := sub_low (s % 4294967296) t b (by omega) hb
  rw [Int.natCast_emod] at h
  exact h

set_option maxHeartbeats 4000000 in
theorem next_any {w : World} {gd p m cp cm b a y : Nat} (hd : BlkV w gd 117 [.int .u64 p, .int .u64 m, .int .u64 cp, .int .u64 cm, .int .u64 b]) (hp : p < 4294967296) (hm : m < 4294967296) (hcp : cp < 4294967296) (hcm : cm < 4294967296) (hb : b ≤ 1) (ha : a < 4294967296) (hy : y < 4294967296) :
    Calls Tryz.prog 107 #[.pointer (some ⟨gd, 0, none⟩), .int .u32 a, .int .u32 y] w fun e w' => ∃ r b' : Nat, e = .returned (.int .u32 r) ∧ r < 4294967296 ∧ b' ≤ 1 ∧ (cp + p * a) % 4294967296 + b' * 4294967296 = r + (b + (cm + m * y) % 4294967296) ∧
      BlkV w' gd 117 [.int .u64 p, .int .u64 m, .int .u64 ((cp + p * a) / 4294967296 : Nat), .int .u64 ((cm + m * y) / 4294967296 : Nat), .int .u64 b'] ∧ Only gd w w' := by
  have k0 := hd.cell 0 rfl
  have k1 := hd.cell 1 rfl
  have k2 := hd.cell 2 rfl
  have k3 := hd.cell 3 rfl
  have k4 := hd.cell 4 rfl
  have p2 := hd.frozen 2
  have p3 := hd.frozen 3
  have p4 := hd.frozen 4
  have HD := hid hd
  clear hd
  obtain ⟨b1, b2, b3⟩ := mul_bd hp ha
  obtain ⟨c1, c2, c3⟩ := mul_bd hm hy
  obtain ⟨s, hs⟩ : ∃ s, s = cp + p * a := ⟨_, rfl⟩
  obtain ⟨t, ht⟩ : ∃ t, t = cm + m * y := ⟨_, rfl⟩
  have es : (cp : Int) + (p : Int) * (a : Int) = (s : Int) := by rw [hs]; simp
  have et : (cm : Int) + (m : Int) * (y : Int) = (t : Int) := by rw [ht]; simp
  have hs2 : (s : Int) ≤ 18446744073709551615 := by omega
  have ht2 : (t : Int) ≤ 18446744073709551615 := by omega
  rw [← hs, ← ht]
  have HST := hid (And.intro hs ht)
  clear hs ht b3 c3
  go_enter Tryz.func107, Tryz.ntmps107
  go_wp2_with fail
  go_region
  go_wp2_with fail
  go_region
  go_wp2_with fail
  go_region
  go_wp2
  go_ret
  obtain ⟨r, b', hr, hb', he, e1, e2⟩ := diff_low s t b hb
  refine ⟨r, b', ret_int e2, hr, hb', he, ?_, ?_⟩
  · rw [e1, Int.natCast_ediv, Int.natCast_ediv]
    exact ((((HD.out.set 2 _).set 3 _).set 4 _).set 2 _).set 3 _
  · exact ((((((Only.set gd w 2 _).setv 3 _).setv 4 _).setv 2 _).setv 3 _).drew).drew.drew

end Go.Proofs.YtcfhajnboamnnaaGreatDoor
