/- Contract: sums of even and odd places are joined. -/
import Derived.Test.YtimlpehgafjkpaaXNT9
import Derived.Deep.RegionWith
import Derived.Deep.QuietTactic
import Derived.BigQuiet
namespace Go.Proofs.Ytimlpehgafjkpaa
open Go.RowKit Go.Maps
set_option linter.unusedVariables false
set_option linter.unusedSimpArgs false

/-- Numbers as remainders. -/
def fF (M : List Nat) (i : Nat) : F := cF (M.getD i 0)
/-- What a join makes of numbers. -/
def btF (h : Nat) (ρ : F) (f : Nat → F) (i : Nat) : F := if i % (2 * h) < h then f i + ρ ^ (i % (2 * h)) * f (i + h) else f (i - h) - ρ ^ (i % (2 * h) - h) * f i
/-- How far a join is: block a, place k. -/
def JInv (n h : Nat) (ρ : F) (L : List Nat) (a k : Nat) (M : List Nat) : Prop :=
  ∀ i, i < 1024 → (i < n → M.getD i 0 < 998244353) ∧ fF M i = if i < k ∨ (a + h ≤ i ∧ i < k + h) then btF h ρ (fF L) i else fF L i

theorem JInv.start {n h : Nat} {ρ : F} {L : List Nat} (hL : ∀ i, i < n → L.getD i 0 < 998244353) : JInv n h ρ L 0 0 L := by
  intro i hi
  refine ⟨hL i, ?_⟩
  rw [if_neg (by omega)]
theorem JInv.block {n h : Nat} {ρ : F} {L M : List Nat} {a : Nat} (hI : JInv n h ρ L a (a + h) M) : JInv n h ρ L (a + 2 * h) (a + 2 * h) M := by
  intro i hi
  obtain ⟨h1, h2⟩ := hI i hi
  refine ⟨h1, ?_⟩
  rw [h2]
  by_cases hc : i < a + 2 * h
  · rw [if_pos (by omega), if_pos (by omega)]
  · rw [if_neg (by omega), if_neg (by omega)]
theorem JInv.step {n h : Nat} {ρ : F} {L M : List Nat} {a q r : Nat} {wv : Nat} (hI : JInv n h ρ L a (a + r) M) (hl : M.length = 1024) (ha : a = 2 * h * q) (hr : r < h) (hn : n ≤ 1024) (hin : a + 2 * h ≤ n) (hw : cF wv = ρ ^ r) :
    JInv n h ρ L a (a + r + 1) ((M.set (a + r) ((M.getD (a + r) 0 + wv * M.getD (a + r + h) 0 % 998244353) % 998244353)).set (a + r + h) ((M.getD (a + r) 0 + (998244353 - wv * M.getD (a + r + h) 0 % 998244353)) % 998244353)) := by
  have e1 : fF M (a + r) = fF L (a + r) := by rw [(hI (a + r) (by omega)).2, if_neg (by omega)]
  have e2 : fF M (a + r + h) = fF L (a + r + h) := by rw [(hI (a + r + h) (by omega)).2, if_neg (by omega)]
  have hp : wv * M.getD (a + r + h) 0 % 998244353 < 998244353 := Nat.mod_lt _ (by omega)
  have m1 : (a + r) % (2 * h) = r := by rw [ha, Nat.mul_add_mod, Nat.mod_eq_of_lt (by omega)]
  have m2 : (a + r + h) % (2 * h) = r + h := by rw [Nat.add_assoc, ha, Nat.mul_add_mod, Nat.mod_eq_of_lt (by omega)]
  have hodd : cF (wv * M.getD (a + r + h) 0 % 998244353) = ρ ^ r * fF L (a + r + h) := by rw [cF_mod, cF_mul, hw, ← e2]; rfl
  intro i hi
  by_cases h1 : i = a + r + h
  · subst h1
    have hg := getD_set_eq (M.set (a + r) ((M.getD (a + r) 0 + wv * M.getD (a + r + h) 0 % 998244353) % 998244353)) (a + r + h) ((M.getD (a + r) 0 + (998244353 - wv * M.getD (a + r + h) 0 % 998244353)) % 998244353) (by rw [List.length_set, hl]; omega)
    refine ⟨fun _ => by rw [hg]; exact Nat.mod_lt _ (by omega), ?_⟩
    rw [if_pos (by omega)]
    unfold btF
    rw [m2, if_neg (by omega), show a + r + h - h = a + r by omega, show r + h - h = r by omega]
    show cF (List.getD _ (a + r + h) 0) = _
    rw [hg, cF_mod, cF_add, cF_sub (by omega), cF_prime, hodd, ← e1]
    show fF M (a + r) + _ = _
    grind
  · by_cases h2 : i = a + r
    · subst h2
      have hg : ((M.set (a + r) ((M.getD (a + r) 0 + wv * M.getD (a + r + h) 0 % 998244353) % 998244353)).set (a + r + h) ((M.getD (a + r) 0 + (998244353 - wv * M.getD (a + r + h) 0 % 998244353)) % 998244353)).getD (a + r) 0 = (M.getD (a + r) 0 + wv * M.getD (a + r + h) 0 % 998244353) % 998244353 := by
        rw [getD_set_ne _ _ _ _ (by omega), getD_set_eq _ _ _ (by rw [hl]; omega)]
      refine ⟨fun _ => by rw [hg]; exact Nat.mod_lt _ (by omega), ?_⟩
      rw [if_pos (by omega)]
      unfold btF
      rw [m1, if_pos hr]
      show cF (List.getD _ (a + r) 0) = _
      rw [hg, cF_mod, cF_add, hodd, ← e1]
      rfl
    · have hg : ((M.set (a + r) ((M.getD (a + r) 0 + wv * M.getD (a + r + h) 0 % 998244353) % 998244353)).set (a + r + h) ((M.getD (a + r) 0 + (998244353 - wv * M.getD (a + r + h) 0 % 998244353)) % 998244353)).getD i 0 = M.getD i 0 := by
        rw [getD_set_ne _ _ _ _ (by omega), getD_set_ne _ _ _ _ (by omega)]
      obtain ⟨h3, h4⟩ := hI i hi
      refine ⟨by rw [hg]; exact h3, ?_⟩
      show cF (List.getD _ i 0) = _
      rw [hg]
      show fF M i = _
      rw [h4]
      by_cases hc : i < a + r ∨ (a + h ≤ i ∧ i < a + r + h)
      · rw [if_pos hc, if_pos (by omega)]
      · rw [if_neg hc, if_neg (by omega)]

set_option maxHeartbeats 8000000 in
set_option maxRecDepth 20000 in
theorem join_any {w : World} {g : Nat} {L : List Nat} (n h Q ρ : Nat) (hn : n ≤ 1024) (hnQ : n = 2 * h * Q) (hQ : 0 < Q) (h0 : 0 < h) (hρ : ρ < 998244353) (hL : ∀ i, i < n → L.getD i 0 < 998244353) (hA : Arr w g L) :
    Calls Try.prog 33 #[.pointer (some ⟨g, 0, none⟩), .int .i64 n, .int .i64 h, .int .u32 ρ] w fun e w' => e = .returned (.tuple #[]) ∧ ∃ M, Arr w' g M ∧ Only g w w' ∧ JInv n h (cF ρ) L n n M := by
  have HAr := hid hA
  have HL := hid hL
  clear hA hL
  have hh : 2 * h ≤ n := by
    rw [hnQ]
    exact Nat.le_mul_of_pos_right _ (by omega)
  have HQ := hid hnQ
  clear hnQ
  go_enter Try.func33, Try.ntmps33
  go_wp2_with fail
  go_loopw [8] (fun av wr => ∃ (a q : Nat) (M : List Nat), a ≤ n ∧ av = .int .i64 a ∧ Arr wr g M ∧ Only g w wr ∧ JInv n h (cF ρ) L a a M ∧ a = 2 * h * q) (fun i _ => n - (intOf i).toNat)
  case atStart => exact ⟨0, 0, L, by omega, rfl, HAr.out, Only.refl _ _, JInv.start HL.out, rfl⟩
  case round =>
    obtain ⟨a, q, M, hle, rfl, hM, hO, hI, hq⟩ := hrel
    have HM := hid hM
    have HO := hid hO
    have HI := hid hI
    have Hq := hid hq
    clear hM hO hI hq
    by_cases hlt : a < n
    · have hin : a + 2 * h ≤ n := by
        have h1 := HQ.out
        have h2 := Hq.out
        rw [h1, h2] at hlt
        have h3 : q < Q := Nat.lt_of_mul_lt_mul_left hlt
        have h4 : 2 * h * (q + 1) ≤ 2 * h * Q := Nat.mul_le_mul_left _ h3
        rw [Nat.mul_succ] at h4
        omega
      go_wp2_with fail
      go_loopw [9, 10] (fun wv kv ws => ∃ (x r : Nat) (N : List Nat), r ≤ h ∧ wv = .int .u32 x ∧ kv = .int .i64 ((a + r : Nat) : Int) ∧ Arr ws g N ∧ Only g w ws ∧ JInv n h (cF ρ) L a (a + r) N ∧ x < 998244353 ∧ cF x = cF ρ ^ r) (fun _ kv _ => a + h - (intOf kv).toNat)
      case atStart => exact ⟨1, 0, M, by omega, rfl, rfl, HM.out, HO.out, HI.out, by omega, by rw [rpow_zero]; rfl⟩
      case round =>
        obtain ⟨x, r, N, hr, rfl, rfl, hN, hO2, hI2, hx, hcx⟩ := hrel
        have HN := hid hN
        have HO2 := hid hO2
        have HI2 := hid hI2
        have HX := hid hcx
        clear hN hO2 hI2 hcx
        by_cases hrh : r < h
        · have hst := hid (HI2.out.step HN.out.2.1 Hq.out hrh hn hin HX.out)
          have hp1 := (HI2.out (a + r) (by omega)).1 (by omega)
          have hck := hid (HN.out.cell (a + r) (by omega))
          have hch := hid (HN.out.cell (a + r + h) (by omega))
          have hfo := hid (HN.out.frozen)
          have hok := HN.out.ok (a + r + h)
          have hset := hid (fun u v hu hv => (HN.out.set (a + r) u hu).set (a + r + h) v hv)
          obtain ⟨k, hk⟩ : ∃ k, k = a + r := ⟨_, rfl⟩
          rw [← hk] at hst hp1 hck hch hok hset
          obtain ⟨e, he⟩ : ∃ e, e = N.getD k 0 := ⟨_, rfl⟩
          obtain ⟨o, ho⟩ : ∃ o, o = N.getD (k + h) 0 := ⟨_, rfl⟩
          rw [← he] at hst hp1 hck
          rw [← ho] at hst hch hok
          rw [show ((a + r : Nat) : Int) = (k : Int) by rw [hk]]
          have hkl : k + h < 1024 := by omega
          obtain ⟨s, hs⟩ : ∃ s, s = k + h := ⟨_, rfl⟩
          have hsi : (k : Int) + (h : Int) = (s : Int) := by omega
          rw [← hs] at hst hch hset hkl
          have hkls : k < s := by omega
          have HS := hid hs
          clear hs
          have hka : (k : Int) < a + h := by omega
          have HK := hid hk
          clear hk he ho
          go_upto_region 7 with fail
          have c1 := hck.out
          have c2 := hch.out
          have htx : x < 4294967296 := by omega
          go_quiet ((go_at_call 30; exact Calls.quiet_of_same (times_any _ x o htx hok)))
          go_upto_region 8 with fail
          have hpl : x * o % 998244353 < 998244353 := Nat.mod_lt _ (by omega)
          obtain ⟨p, hp⟩ : ∃ p, p = x * o % 998244353 := ⟨_, rfl⟩
          rw [← hp] at hst hpl ⊢
          have HP := hid hp
          clear hp c1 c2
          have c1 : (wr.drewN nq).cell? ⟨g, k, none⟩ = some (.int .u32 (e : Int)) := hck.out
          have c2 : (wr.drewN nq).cell? ⟨g, s, none⟩ = some (.int .u32 (o : Int)) := hch.out
          have f1 : (wr.drewN nq).frozen? ⟨g, k, none⟩ = false := hfo.out k
          have f2 : (wr.drewN nq).frozen? ⟨g, s, none⟩ = false := hfo.out s
          have hne : k ≠ s := by omega
          have hkk : k < 1024 := by omega
          have u1 : (e + p) % 998244353 < 4294967296 := by omega
          have u2 : (e + (998244353 - p)) % 998244353 < 4294967296 := by omega
          have hA2 : Hid (Arr (((wr.drewN nq).setCell ⟨g, k, none⟩ (.int .u32 (((e + p) % 998244353 : Nat) : Int))).setCell ⟨g, s, none⟩ (.int .u32 (((e + (998244353 - p)) % 998244353 : Nat) : Int))) g ((N.set k ((e + p) % 998244353)).set s ((e + (998244353 - p)) % 998244353))) := hid (hset.out _ _ u1 u2)
          obtain ⟨P1, hP1⟩ : ∃ P1, P1 = (e + p) % 998244353 := ⟨_, rfl⟩
          obtain ⟨P2, hP2⟩ : ∃ P2, P2 = (e + (998244353 - p)) % 998244353 := ⟨_, rfl⟩
          rw [← hP1, ← hP2] at hA2 hst
          have hcp : ∀ w', Calls Try.prog 36 #[.int .u32 e, .int .u32 p] w' fun e' w'' => e' = .returned (.int .u32 (P1 : Int)) ∧ w'' = w' := fun w' => by rw [hP1]; exact plus_rem w' e p (by omega) (by omega)
          have hcm : ∀ w', Calls Try.prog 37 #[.int .u32 e, .int .u32 p] w' fun e' w'' => e' = .returned (.int .u32 (P2 : Int)) ∧ w'' = w' := fun w' => by rw [hP2]; exact minus_rem w' e p hp1 hpl
          have hcp := hid hcp
          have hcm := hid hcm
          have hO3 := hid (((HO2.out.drewN nq).setv k (.int .u32 (P1 : Int))).setv s (.int .u32 (P2 : Int)))
          clear hP1 hP2 u1 u2 hpl hok
          generalize wr.drewN nq = wq at *
          go_region_with (first
            | (go_at_call 36; refine (hcp.out _).mono ?_; rintro e1 w1 ⟨rfl, rfl⟩)
            | (go_at_call 37; refine (hcm.out _).mono ?_; rintro e1 w1 ⟨rfl, rfl⟩))
          generalize hw9 : (((wq.setCell ⟨g, k, none⟩ (.int .u32 (P1 : Int))).setCell ⟨g, s, none⟩ (.int .u32 (P2 : Int))).drew) = w9 at *
          have hA9 : Hid (Arr w9 g ((N.set k P1).set s P2)) := by rw [← hw9]; exact hA2.out
          have hO9 : Hid (Only g w w9) := by rw [← hw9]; exact hO3.out.drew
          clear hw9 hA2 hO3
          have hcx : cF (x * ρ % 998244353) = cF ρ ^ (r + 1) := by rw [cF_mod, cF_mul, HX.out, rpow_add, rpow_one]
          have hxm : x * ρ % 998244353 < 998244353 := Nat.mod_lt _ (by omega)
          have HC := hid hcx
          clear hcx
          go_wp2_with fail
          refine (times_any _ x ρ (by omega) (by omega)).mono ?_
          rintro e2 w2 ⟨rfl, rfl⟩
          go_wp2_with fail
          go_roundw
          case rel =>
            refine ⟨x * ρ % 998244353, r + 1, _, by omega, rfl, ?_, hA9.out, hO9.out, ?_, hxm, HC.out⟩
            · have := HK.out
              go_num
            · have := hst.out
              rw [HK.out] at this ⊢
              exact this
          case measure => simp [intOf]; omega
        · go_wp2_with fail
          go_roundw
          case rel =>
            have e1 : r = h := by omega
            have hI3 := HI2.out
            rw [e1] at hI3
            exact ⟨a + 2 * h, q + 1, N, by omega, by go_num, HN.out, HO2.out, hI3.block, by rw [Hq.out, Nat.mul_succ]⟩
          case measure => simp [intOf]; omega
    · go_wp2_with fail
      go_returns
      obtain rfl : a = n := by omega
      exact ⟨rfl, M, HM.out, HO.out, HI.out⟩
end Go.Proofs.Ytimlpehgafjkpaa
