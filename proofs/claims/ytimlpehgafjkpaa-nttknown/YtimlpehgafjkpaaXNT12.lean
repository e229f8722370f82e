/- Contract: points transformed. -/
import Derived.Test.YtimlpehgafjkpaaXNT11
import Derived.Maps.OwnOps
namespace Go.Proofs.Ytimlpehgafjkpaa
open Go.RowKit Go.Maps
set_option linter.unusedVariables false
set_option linter.unusedSimpArgs false

theorem law_look1 {w : World} {ops : Array Oper} {rest : List Oper} {o : Oper} {a : Act} {Q : Exit → Act → World → Prop} (hg : o.guard = none) (m x : Operand)
    (hop : o.op = Op.lookup 50 m x false) (b : Nat) (back : Bool) (t N R S : Nat) (hm : a.eval m = .map (some b)) (hS : Steps w b back 11) (ht : t < 11) (hN : N = 2 ^ t) (hR : R = vF (rtF back N)) (hSh : S = vF (shF back N))
    (v : Int) (hx : a.eval x = .int .i64 v) (hv : v = (N : Int))
    (h : wpList Try.prog ops Q rest (a.put o.dst (.agg #[.int .u32 (R : Int), .int .u32 (S : Int)])) w) : wpList Try.prog ops Q (o :: rest) a w := by
  subst hR hSh hN
  exact law_look hg m x hop b back 11 t hm hS ht (by omega) v hx hv h

theorem field_step0 (R S : Nat) (w : World) : (Instr.field 53 (.agg #[.int .u32 (R : Int), .int .u32 (S : Int)]) 0).run Try.prog w = .ok (.int .u32 (R : Int)) w := by kernel_rfl
theorem field_step1 (R S : Nat) (w : World) : (Instr.field 53 (.agg #[.int .u32 (R : Int), .int .u32 (S : Int)]) 1).run Try.prog w = .ok (.int .u32 (S : Int)) w := by kernel_rfl

/-- How far the last loop is: each times its share. -/
def TInv (n : Nat) (s : F) (f : Nat → F) (k : Nat) (M : List Nat) : Prop := ∀ i, i < n → M.getD i 0 < 998244353 ∧ fF M i = if i < k then f i * s else f i
theorem TInv.start {n : Nat} {s : F} {M : List Nat} (h : ∀ i, i < n → M.getD i 0 < 998244353) : TInv n s (fF M) 0 M := fun i hi => ⟨h i hi, by rw [if_neg (by omega)]⟩
theorem TInv.step {n k sv : Nat} {s : F} {f : Nat → F} {M : List Nat} (h : TInv n s f k M) (hl : M.length = 1024) (hn : n ≤ 1024) (hk : k < n) (hs : cF sv = s) : TInv n s f (k + 1) (M.set k (M.getD k 0 * sv % 998244353)) := by
  intro i hi
  by_cases e : i = k
  · subst e
    have hg := getD_set_eq M i (M.getD i 0 * sv % 998244353) (by rw [hl]; omega)
    refine ⟨by rw [hg]; exact Nat.mod_lt _ (by omega), ?_⟩
    rw [if_pos (by omega)]
    show cF (List.getD _ i 0) = _
    rw [hg, cF_mod, cF_mul, hs]
    have := (h i hi).2
    rw [if_neg (by omega)] at this
    rw [← this]; rfl
  · have hg := getD_set_ne M k i (M.getD k 0 * sv % 998244353) (fun h => e h.symm)
    obtain ⟨h1, h2⟩ := h i hi
    refine ⟨by rw [hg]; exact h1, ?_⟩
    show cF (List.getD _ i 0) = _
    rw [hg]
    show fF M i = _
    rw [h2]
    by_cases hc : i < k
    · rw [if_pos hc, if_pos (by omega)]
    · rw [if_neg hc, if_neg (by omega)]

theorem vF_of {x : Nat} {y : F} (h : x < 998244353) (e : cF x = y) : x = vF y := by rw [← e, vF_c_lt h]

set_option maxHeartbeats 4000000 in
set_option maxRecDepth 20000 in
theorem transform_any {w : World} {g b : Nat} {L : List Nat} (back : Bool) (m : Nat) (hm : m ≤ 10) (hA : Arr w g L) (hS : Steps w b back 11) (hne : b ≠ g) (hL : ∀ i, i < 2 ^ m → L.getD i 0 < 998244353) :
    Calls Try.prog 25 #[.pointer (some ⟨g, 0, none⟩), .int .i64 ((2 ^ m : Nat) : Int), .map (some b)] w fun e w' => e = .returned (.tuple #[]) ∧ ∃ M, Arr w' g M ∧ Only g w w' ∧
      ∀ i, i < 2 ^ m → M.getD i 0 = vF (dft (fF L) (rtF back (2 ^ m)) (2 ^ m) i * shF back (2 ^ m)) := by
  have hp : 2 ^ m ≤ 2 ^ 10 := Nat.pow_le_pow_right (by omega) hm
  have hp0 := Nat.two_pow_pos m
  have hsc := hid (scatter_any m hm hA)
  obtain ⟨n, hn⟩ : ∃ n, n = 2 ^ m := ⟨_, rfl⟩
  have HN := hid hn
  rw [← hn] at hp hp0 hL hsc ⊢
  have HL := hid hL
  have HS := hid hS
  clear hn hL hS hA
  go_enter Try.func25, Try.ntmps25
  go_wp2_with fail
  refine hsc.out.mono ?_
  rintro e w1 ⟨rfl, M0, hM0, hO0, hS0⟩
  have hS0' : Scat m (2 ^ m) L M0 := by rw [← HN.out]; exact hS0
  have hI0 := hid (SInv.start (back := back) hS0' hm)
  have hL0 : Hid (∀ i, i < n → M0.getD i 0 < 998244353) := hid fun i hi => by
    rw [hS0 i (by omega), if_pos ⟨by rw [← HN.out]; exact hi, .inl hi⟩]
    exact HL.out _ (by rw [HN.out]; exact rev_lt m i)
  have HM0 := hid hM0
  have HO0 := hid hO0
  have HS1 := hid (HS.out.only hO0 hne)
  clear hM0 hO0 hS0 hS0' hsc
  go_wp2_with fail
  go_loopw [6] (fun hv wr => ∃ (t : Nat) (M : List Nat), t ≤ m ∧ hv = .int .i64 ((2 ^ t : Nat) : Int) ∧ Arr wr g M ∧ Only g w wr ∧ (∀ i, i < n → M.getD i 0 < 998244353) ∧ SInv back m t (fF L) (fF M)) (fun hv _ => n - (intOf hv).toNat)
  case atStart => exact ⟨0, M0, by omega, rfl, HM0.out, HO0.out, hL0.out, hI0.out⟩
  case round =>
    obtain ⟨t, M, ht, rfl, hM, hO, hLM, hI⟩ := hrel
    have hth : 2 ^ t ≤ 2 ^ m := Nat.pow_le_pow_right (by omega) ht
    have hth0 := Nat.two_pow_pos t
    by_cases htm : t < m
    · have hlt : 2 ^ t < 2 ^ m := Nat.pow_lt_pow_right (by omega) htm
      obtain ⟨Q, hQ⟩ : ∃ Q, Q = 2 ^ (m - (t + 1)) := ⟨_, rfl⟩
      have hQ0 : 0 < Q := by rw [hQ]; exact Nat.two_pow_pos _
      have hnQ : 2 ^ m = 2 * 2 ^ t * Q := by rw [hQ, ← Nat.pow_succ', ← Nat.pow_add]; congr 1; omega
      have hN2 : 2 * 2 ^ t = 2 ^ (t + 1) := by rw [Nat.pow_succ']
      have hSM := hid ((HS.out.only hO hne))
      have HT : Hid (∀ {f' : Nat → F}, (∀ i, i < 2 ^ m → f' i = btF (2 ^ t) (rtF back (2 ^ (t + 1))) (fF M) i) → SInv back m (t + 1) (fF L) f') := hid fun hf => hI.step hm htm hf
      have HM := hid hM
      have HO := hid hO
      have HLM := hid hLM
      clear hM hO hLM hI hQ
      obtain ⟨N, hNN⟩ : ∃ N, N = 2 ^ (t + 1) := ⟨_, rfl⟩
      rw [← hNN] at hN2 HT
      obtain ⟨h, hh⟩ : ∃ h, h = 2 ^ t := ⟨_, rfl⟩
      rw [← hh] at hth hth0 hlt hnQ hN2 HT ⊢
      rw [← HN.out] at hth hlt hnQ HT
      obtain ⟨R, hR⟩ : ∃ R, R = vF (rtF back N) := ⟨_, rfl⟩
      obtain ⟨S, hSS⟩ : ∃ S, S = vF (shF back N) := ⟨_, rfl⟩
      have hRl : R < 998244353 := by rw [hR]; exact vF_lt _
      have hcR : Hid (cF R = rtF back N) := hid (by rw [hR, cF_v])
      have hj := hid (join_any n h Q R (by omega) hnQ hQ0 hth0 hRl HLM.out HM.out)
      have HH := hid hh
      have HNN := hid hNN
      have HR := hid hR
      have HSS := hid hSS
      have hN2i : 2 * (h : Int) = (N : Int) := by omega
      clear hh hNN hR hSS hnQ
      have hfd := field_step0 R S
      go_wp2_with (at_lookup; refine law_look1 rfl (.tmp 20) (.tmp 22) rfl b back (t + 1) N R S rfl hSM.out (by omega) HNN.out HR.out HSS.out _ rfl rfl ?_)
      refine hj.out.mono ?_
      rintro e w2 ⟨rfl, M2, hM2, hO2, hI2⟩
      have HM2 := hid hM2
      have HO2 := hid (HO.out.trans hO2)
      have HI2 := hid hI2
      clear hM2 hO2 hI2
      go_wp2_with fail
      go_roundw
      case rel =>
        refine ⟨t + 1, M2, by omega, ?_, HM2.out, HO2.out, fun i hi => (HI2.out i (by omega)).1 hi, HT.out fun i hi => ?_⟩
        · rw [← HNN.out]; go_num
        · have := (HI2.out i (by omega)).2
          rw [if_pos (.inl hi), hcR.out] at this
          exact this
      case measure => simp [intOf]; omega
    · obtain rfl : t = m := by omega
      have hdone := hid hI.done
      have hSM := hid (HS.out.only hO hne)
      have HM := hid hM
      have HO := hid hO
      have HLM := hid hLM
      clear hM hO hLM hI hth hth0 htm
      rw [← HN.out]
      obtain ⟨R, hR⟩ : ∃ R, R = vF (rtF back n) := ⟨_, rfl⟩
      obtain ⟨S, hSS⟩ : ∃ S, S = vF (shF back n) := ⟨_, rfl⟩
      have hSl : S < 998244353 := by rw [hSS]; exact vF_lt _
      have hcS : Hid (cF S = shF back n) := hid (by rw [hSS, cF_v])
      have HR := hid hR
      have HSS := hid hSS
      have hfd := field_step1 R S
      clear hR hSS
      go_wp2_with (at_lookup; refine law_look1 rfl (.tmp 26) (.tmp 27) rfl b back t n R S rfl hSM.out (by omega) HN.out HR.out HSS.out _ rfl rfl ?_)
      go_loopw [31] (fun kv ws => ∃ (k : Nat) (N : List Nat), k ≤ n ∧ kv = .int .i64 k ∧ Arr ws g N ∧ Only g w ws ∧ TInv n (shF back n) (fF M) k N) (fun kv _ => n - (intOf kv).toNat)
      case atStart => exact ⟨0, M, by omega, rfl, HM.out, HO.out, TInv.start HLM.out⟩
      case round =>
        obtain ⟨k, N, hk, rfl, hNA, hO2, hT⟩ := hrel
        by_cases hkn : k < n
        · have hst := hid (hT.step hNA.2.1 (by omega) hkn hcS.out)
          have hxl := (hT k hkn).1
          have hck := hid (hNA.cell k (by omega))
          have hfo := hid (hNA.frozen k)
          have hset := hid (hNA.set k)
          obtain ⟨x, hx⟩ : ∃ x, x = N.getD k 0 := ⟨_, rfl⟩
          rw [← hx] at hst hxl hck
          have hpl : x * S % 998244353 < 998244353 := Nat.mod_lt _ (by omega)
          have hct : Hid (∀ w', Calls Try.prog 30 #[.int .u32 x, .int .u32 S] w' fun e' w'' => e' = .returned (.int .u32 ((x * S % 998244353 : Nat) : Int)) ∧ w'' = w') := hid fun w' => times_any w' x S (by omega) (by omega)
          obtain ⟨p, hp'⟩ : ∃ p, p = x * S % 998244353 := ⟨_, rfl⟩
          rw [← hp'] at hst hpl hct
          have HO2 := hid hO2
          have hset2 := hid (hset.out p (by omega))
          have hb1 : k < 1024 := by omega
          clear hx hp' hNA hO2 hT hset
          go_wp2_with fail
          have c1 := hck.out
          have f1 := hfo.out
          go_region_with (go_at_call 30; refine (hct.out _).mono ?_; rintro e1 w1 ⟨rfl, rfl⟩)
          generalize hw9 : ((wr.setCell ⟨g, k, none⟩ (.int .u32 (p : Int))).drew) = w9 at *
          have hA9 : Hid (Arr w9 g (N.set k p)) := by rw [← hw9]; exact hset2.out
          have hO9 : Hid (Only g w w9) := by rw [← hw9]; exact (HO2.out.setv k _).drew
          clear hw9 hset2 HO2
          go_wp2_with fail
          go_roundw
          case rel => exact ⟨k + 1, _, by omega, by go_num, hA9.out, hO9.out, hst.out⟩
          case measure => simp [intOf]; omega
        · go_wp2_with fail
          go_returns
          obtain rfl : k = n := by omega
          refine ⟨rfl, N, hNA, hO2, fun i hi => ?_⟩
          obtain ⟨h1, h2⟩ := hT i hi
          rw [if_pos hi, hdone.out i (by rw [← HN.out]; exact hi)] at h2
          have := vF_of h1 h2
          rw [this, ← HN.out]
end Go.Proofs.Ytimlpehgafjkpaa
