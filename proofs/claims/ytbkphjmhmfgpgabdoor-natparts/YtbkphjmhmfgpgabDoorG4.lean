/- Contract of nat's difference.next. -/
import Derived.Test.YtbkphjmhmfgpgabDoorG3
namespace Go.Proofs.YtbkphjmhmfgpgabDoor
open Go.RowKit
set_option linter.unusedVariables false

/-- One round of a difference of two multiples. -/
theorem diff_step {P X Y Z p m cp cm b b' a y r : Nat} (h : p * X + (b + cm) * P = Z + m * Y + cp * P) (e : (cp + p * a) % 4294967296 + b' * 4294967296 = r + (b + (cm + m * y) % 4294967296)) :
    p * (X + P * a) + (b' + (cm + m * y) / 4294967296) * (P * 4294967296) = Z + P * r + m * (Y + P * y) + (cp + p * a) / 4294967296 * (P * 4294967296) := by
  have h1 := Nat.div_add_mod (cp + p * a) 4294967296
  have h2 := Nat.div_add_mod (cm + m * y) 4294967296
  generalize (cp + p * a) / 4294967296 = c1 at *
  generalize (cm + m * y) / 4294967296 = c2 at *
  generalize (cp + p * a) % 4294967296 = d1 at *
  generalize (cm + m * y) % 4294967296 = d2 at *
  have e1 : P * (4294967296 * c1 + d1) = P * (cp + p * a) := by rw [h1]
  have e2 : P * (4294967296 * c2 + d2) = P * (cm + m * y) := by rw [h2]
  have e3 : P * (d1 + b' * 4294967296) = P * (r + (b + d2)) := by rw [e]
  grind

theorem diff_low (s t b : Nat) (hb : b ≤ 1) :
    ∃ r b' : Nat, r < 4294967296 ∧ b' ≤ 1 ∧ s % 4294967296 + b' * 4294967296 = r + (b + t % 4294967296) ∧ IntKind.u64.wrap (IntKind.u64.wrap ((s : Int) % 4294967296 - (t : Int) % 4294967296) - b) / 9223372036854775808 = (b' : Int) ∧ IntKind.u64.wrap (IntKind.u64.wrap ((s : Int) % 4294967296 - (t : Int) % 4294967296) - b) % 4294967296 = (r : Int) := by
  have h := sub_low (s % 4294967296) t b (by omega) hb
  rw [Int.natCast_emod] at h
  exact h

set_option maxHeartbeats 4000000 in
theorem next_any {w : World} {gd p m cp cm b a y : Nat} (hd : BlkV w gd 78 [.int .u64 p, .int .u64 m, .int .u64 cp, .int .u64 cm, .int .u64 b]) (hp : p < 4294967296) (hm : m < 4294967296) (hcp : cp < 4294967296) (hcm : cm < 4294967296) (hb : b ≤ 1) (ha : a < 4294967296) (hy : y < 4294967296) :
    Calls Tryd.prog 70 #[.pointer (some ⟨gd, 0, none⟩), .int .u32 a, .int .u32 y] w fun e w' => ∃ r b' : Nat, e = .returned (.int .u32 r) ∧ r < 4294967296 ∧ b' ≤ 1 ∧ (cp + p * a) % 4294967296 + b' * 4294967296 = r + (b + (cm + m * y) % 4294967296) ∧
      BlkV w' gd 78 [.int .u64 p, .int .u64 m, .int .u64 ((cp + p * a) / 4294967296 : Nat), .int .u64 ((cm + m * y) / 4294967296 : Nat), .int .u64 b'] ∧ Only gd w w' := by
  have k0 := hd.cell 0 rfl
  have k1 := hd.cell 1 rfl
  have k2 := hd.cell 2 rfl
  have k3 := hd.cell 3 rfl
  have k4 := hd.cell 4 rfl
  have p2 := hd.frozen 2
  have p3 := hd.frozen 3
  have p4 := hd.frozen 4
  have HD := hid hd
  clear hd
  obtain ⟨b1, b2, b3⟩ := mul_bd hp ha
  obtain ⟨c1, c2, c3⟩ := mul_bd hm hy
  obtain ⟨s, hs⟩ : ∃ s, s = cp + p * a := ⟨_, rfl⟩
  obtain ⟨t, ht⟩ : ∃ t, t = cm + m * y := ⟨_, rfl⟩
  have es : (cp : Int) + (p : Int) * (a : Int) = (s : Int) := by rw [hs]; simp
  have et : (cm : Int) + (m : Int) * (y : Int) = (t : Int) := by rw [ht]; simp
  have hs2 : (s : Int) ≤ 18446744073709551615 := by omega
  have ht2 : (t : Int) ≤ 18446744073709551615 := by omega
  rw [← hs, ← ht]
  have HST := hid (And.intro hs ht)
  clear hs ht b3 c3
  go_enter Tryd.func70, Tryd.ntmps70
  go_wp2_with fail
  go_region
  go_wp2_with fail
  go_region
  go_wp2_with fail
  go_region
  go_wp2
  go_ret
  obtain ⟨r, b', hr, hb', he, e1, e2⟩ := diff_low s t b hb
  refine ⟨r, b', ret_int e2, hr, hb', he, ?_, ?_⟩
  · rw [e1, Int.natCast_ediv, Int.natCast_ediv]
    exact ((((HD.out.set 2 _).set 3 _).set 4 _).set 2 _).set 3 _
  · exact ((((((Only.set gd w 2 _).setv 3 _).setv 4 _).setv 2 _).setv 3 _).drew).drew.drew

end Go.Proofs.YtbkphjmhmfgpgabDoor
