/- Contracts of nat's nextDigit and of LeadingZeros32. -/
import Derived.Test.YtbkphjmhmfgpgabDoorD2
namespace Go.Proofs.YtbkphjmhmfgpgabDoor
open Go.RowKit
set_option linter.unusedVariables false

theorem lead32_any (w : World) (x : Nat) (hx : x < 4294967296) : Calls Tryd.prog 68 #[.int .u32 x] w fun e w' => e = .returned (.int .i64 ((32 - blen x : Nat) : Int)) ∧ w' = w := by
  have hb : blen x ≤ 32 := (blen_le_iff x 32).2 (by omega)
  go_enter Tryd.func68, Tryd.ntmps68
  go_wp2_with fail
  refine (len32_any _ x hx).mono ?_
  rintro e w1 ⟨rfl, rfl⟩
  go_wp2
  go_ret
  exact ⟨ret_int (by omega), rfl⟩

/-- What was taken once too often, given back. -/
theorem give_back {V D d z z2 c2 T : Nat} (h1 : V + 1 * T = z + (d + 1) * D) (h2 : z + D = z2 + c2 * T) (hc : c2 ≤ 1) (hz2 : z2 < T) (hz : z < T) (hlt : (d + 1) * D < V + D) : V = d * D + z2 ∧ z2 < D := by
  rw [Nat.add_mul, Nat.one_mul] at h1 hlt
  obtain rfl | rfl : c2 = 0 ∨ c2 = 1 := by omega
  · omega
  · omega

set_option maxHeartbeats 2000000 in
theorem nextDigit_any {w : World} {len off g cap p : Nat} {pre xs post ys : List Nat} {v : Value} (hb : Blk w g (pre ++ (xs ++ post))) (hlen : len = xs.length) (hofs : off = pre.length) (hcap : xs.length ≤ cap) (hcm : cap ≤ maxLen)
    (hv : Rd w v ys) (hoff : Off v g) (hl : xs.length = p + 3) (hm : ys.length = p + 2) (hp : p ≤ 900000000) (htop : 0 < ys.getD (p + 1) 0) (hlt : val xs < 4294967296 * val ys) :
    Calls Tryd.prog 69 #[.slice (some ⟨g, off, none⟩) len cap, v] w fun e w' =>
      ∃ (d : Nat) (zs : List Nat), e = .returned (.int .u32 d) ∧ zs.length = xs.length ∧ Blk w' g (pre ++ (zs ++ post)) ∧ Only g w w' ∧ d < 4294967296 ∧ val xs = d * val ys + val zs ∧ val zs < val ys := by
  subst hlen hofs
  have hx : Rd w (.slice (some ⟨g, pre.length, none⟩) xs.length cap) xs := hb.rd cap hcap hcm
  have HL := hid (And.intro hl hm)
  have HLT := hid (And.intro htop hlt)
  clear hl hm hlt htop
  go_enter Tryd.func69, Tryd.ntmps69
  go_wp2_with fail
  refine (guess_any hx hv HL.out.1 HL.out.2 hp HLT.out.1 HLT.out.2).mono ?_
  rintro e w1 ⟨d, rfl, hd, hd1, hd2, hf1⟩
  have HD := hid (And.intro hd1 hd2)
  clear hd1 hd2
  go_wp2_with fail
  refine (takeTimes_any (hb.fwd hf1) rfl rfl hcap hcm (hv.fwd hf1) hoff (by rw [HL.out.1, HL.out.2]) (by rw [HL.out.1]; omega) hd).mono ?_
  rintro e w2 ⟨c, zs, rfl, hzl, hbz, hon, hc, hval⟩
  have HV := hid hval
  clear hval
  by_cases h0 : c = 0
  · subst h0
    go_wp2
    go_ret
    obtain ⟨h1, h2⟩ := HD.out
    have h3 := HV.out
    rw [Nat.add_mul, Nat.one_mul] at h1
    exact ⟨d, zs, rfl, hzl, hbz, (hf1.only g).trans hon, hd, by omega, by omega⟩
  · obtain rfl : c = 1 := by omega
    have hd0 : 1 ≤ d := by
      rcases Nat.eq_zero_or_pos d with rfl | h
      · exfalso
        have h3 := HV.out
        have := val_lt hbz.okMid
        rw [hzl] at this
        omega
      · exact h
    go_wp2_with fail
    refine (addTo_any hbz hzl.symm rfl (by rw [hzl]; exact hcap) hcm ((hv.fwd hf1).only hon hoff) hoff (by rw [hzl, HL.out.1, HL.out.2]; omega) (by rw [hzl, HL.out.1]; omega)).mono ?_
    rintro e w3 ⟨rfl, zs2, c2, hzl2, hbz2, hon2, hc2, hval2⟩
    have HV2 := hid hval2
    clear hval2
    go_wp2
    go_ret
    obtain ⟨k, rfl⟩ : ∃ k, d = k + 1 := ⟨d - 1, by omega⟩
    have h4 := val_lt hbz2.okMid
    have h5 := val_lt hbz.okMid
    rw [hzl2] at h4
    have h6 := HV2.out
    rw [hzl] at h4 h5 h6
    have := give_back HV.out h6 hc2 h4 h5 HD.out.2
    exact ⟨k, zs2, ret_int (by omega), by omega, hbz2, ((hf1.only g).trans hon).trans hon2, by omega, this.1, this.2⟩

end Go.Proofs.YtbkphjmhmfgpgabDoor
