/- Contracts: the second telling's power; a step, all steps (a map), and what it tells. -/
import Derived.Test.YtimlpehgafjkpaaXNT3
import Derived.Maps.OwnSet
namespace Go.Proofs.Ytimlpehgafjkpaa
open Go.RowKit Go.Maps
set_option linter.unusedVariables false
set_option linter.unusedSimpArgs false

set_option maxHeartbeats 1000000 in
theorem Pow8_pos (w : World) (a n : Nat) (ha : a < 4294967296) (hn : n ≤ 9223372036854775807) :
    Calls Try.prog 11 #[.int .u32 a, .int .i64 n] w fun e w' => e = .returned (.int .u32 (vF (cF a ^ n) : Nat)) ∧ w' = w := by
  have ham : a % 998244353 < 998244353 := Nat.mod_lt _ (by omega)
  go_enter Try.func11, Try.ntmps11
  go_wp2_with fail
  go_loopw [0, 1, 5] (fun sv nv av wr => ∃ k s t : Nat, nv = .int .i64 k ∧ av = .int .u32 t ∧ sv = .int .u32 s ∧ k ≤ n ∧ s < 4294967296 ∧ t < 998244353 ∧ cF t * cF s ^ k = cF a ^ n ∧ wr = w)
    (fun _ nv _ _ => (intOf nv).toNat)
  case atStart =>
    refine ⟨n, a % 998244353, 1, rfl, rfl, by go_num, Nat.le_refl _, by omega, by omega, ?_, rfl⟩
    rw [cF_one, cF_mod]; grind
  case round =>
    obtain ⟨k, s, t, rfl, rfl, rfl, hk, hs, ht, hval, rfl⟩ := hrel
    have HV := hid hval
    clear hval
    by_cases h0 : k = 0
    · subst h0
      go_wp2_with fail
      go_ret
      refine ⟨?_, rfl⟩
      have := HV.out
      rw [rpow_zero] at this
      have h2 : cF t = cF a ^ n := by rw [← this]; grind
      rw [← h2, vF_c_lt ht]
      rfl
    · have hk1 : 0 < k := by omega
      have half : cF s ^ k = (if k % 2 = 1 then cF s else 1) * cF (s * s % 998244353) ^ (k / 2) := by
        rw [cF_mod, cF_mul, mul_rpow, ← rpow_add]
        split
        · rename_i h
          have e : k = 1 + (k / 2 + k / 2) := by omega
          rw [show cF s ^ k = cF s ^ (1 + (k / 2 + k / 2)) by rw [← e], rpow_add, rpow_one]
        · rename_i h
          have e : k = k / 2 + k / 2 := by omega
          rw [← e]; grind
      have HH := hid half
      clear half
      have hsm : s * s % 998244353 < 998244353 := Nat.mod_lt _ (by omega)
      have htm : t * s % 998244353 < 998244353 := Nat.mod_lt _ (by omega)
      rcases Nat.mod_two_eq_zero_or_one k with h2 | h2
      · go_wp2_with fail
        refine (times8_any _ s s hs hs).mono ?_
        rintro e w1 ⟨rfl, rfl⟩
        go_wp2_with fail
        go_roundw
        case rel =>
          refine ⟨k / 2, s * s % 998244353, t, by go_num, rfl, rfl, by omega, by omega, ht, ?_, trivial⟩
          have := HH.out
          rw [if_neg (by omega)] at this
          rw [← HV.out, this]; grind
        case measure => simp [intOf]; omega
      · go_wp2_with fail
        refine (times8_any _ t s (by omega) hs).mono ?_
        rintro e w1 ⟨rfl, rfl⟩
        go_wp2_with fail
        refine (times8_any _ s s hs hs).mono ?_
        rintro e w2 ⟨rfl, rfl⟩
        go_wp2_with fail
        go_roundw
        case rel =>
          refine ⟨k / 2, s * s % 998244353, t * s % 998244353, by go_num, rfl, rfl, by omega, by omega, htm, ?_, trivial⟩
          have := HH.out
          rw [if_pos h2] at this
          rw [← HV.out, this, cF_mod, cF_mul]; grind
        case measure => simp [intOf]; omega

theorem Pow8_inv (w : World) (a : Nat) (ha : a < 4294967296) :
    Calls Try.prog 11 #[.int .u32 a, .int .i64 998244351] w fun e w' => e = .returned (.int .u32 (vF (ivF (cF a)) : Nat)) ∧ w' = w :=
  Pow8_pos w a 998244351 ha (by omega)

set_option maxRecDepth 20000 in
theorem Pow8_any (w : World) (a : Nat) (n : Int) (ha : a < 4294967296) (h1 : -9223372036854775808 < n) (h2 : n ≤ 9223372036854775807) :
    Calls Try.prog 11 #[.int .u32 a, .int .i64 n] w fun e w' => e = .returned (.int .u32 (vF (powF (cF a) n) : Nat)) ∧ w' = w := by
  obtain ⟨k, hk⟩ : ∃ k, k = n.natAbs := ⟨_, rfl⟩
  unfold powF
  rw [← hk]
  by_cases h0 : n < 0
  · rw [if_pos h0]
    have hn : Hid (wrap64 (0 - n) = (k : Int)) := hid (by unfold wrap64; omega)
    have hn2 : Hid (wrap64 (-n) = (k : Int)) := hid (by unfold wrap64; omega)
    have ham : a % 998244353 < 998244353 := Nat.mod_lt _ (by omega)
    have hl : vF (ivF (cF a)) < 998244353 := vF_lt _
    have hkl : k ≤ 9223372036854775807 := by omega
    have HA := hid (cF_mod a)
    obtain ⟨b, hb⟩ : ∃ b, b = a % 998244353 := ⟨_, rfl⟩
    have hbi : (a : Int) % 998244353 = (b : Int) := by omega
    rw [← hb] at ham HA
    clear hk h1 h2 hb
    go_enter Try.func11, Try.ntmps11
    go_wp2_with fail
    refine (Pow8_inv _ b (by omega)).mono ?_
    rintro e w1 ⟨rfl, rfl⟩
    rw [HA.out]
    go_wp2_with fail
    first | rw [hn.out] | rw [hn2.out]
    refine (Pow8_pos _ (vF (ivF (cF a))) k (by omega) (by omega)).mono ?_
    rintro e w2 ⟨rfl, rfl⟩
    rw [cF_v]
    go_wp2_with fail
    go_ret
    exact ⟨rfl, rfl⟩
  · rw [if_neg h0]
    have hn : n = (k : Int) := by omega
    rw [hn]
    exact Pow8_pos w a k ha (by omega)

/-- The root, and the share, of so many points. -/
def rtF (back : Bool) (n : Nat) : F := if back then ivF (cF 3) ^ (998244352 / n) else cF 3 ^ (998244352 / n)
def shF (back : Bool) (n : Nat) : F := if back then ivF (cF n) else 1
/-- A step as a value. -/
def stepV (back : Bool) (n : Nat) : Value := .agg #[.int .u32 (vF (rtF back n) : Nat), .int .u32 (vF (shF back n) : Nat)]

theorem stepOf_any (w : World) (n : Nat) (back : Bool) (h0 : 0 < n) (hn : n ≤ 1024) :
    Calls Try.prog 31 #[.int .i64 n, .bool back] w fun e w' => e = .returned (stepV back n) ∧ Fwd w w' := by
  obtain ⟨p, hp⟩ : ∃ p, p = 998244352 / n := ⟨_, rfl⟩
  have hpl : p ≤ 998244352 := by rw [hp]; exact Nat.div_le_self _ _
  have hdiv : (998244352 : Int) / (n : Int) = (p : Int) := by rw [hp]; simp
  have hnz : (n : Int) ≠ 0 := by omega
  have htd : (998244352 : Int).tdiv (n : Int) = (p : Int) := by rw [Int.tdiv_eq_ediv_of_nonneg (by omega), hdiv]
  unfold stepV rtF shF
  rw [← hp]
  have HP := hid hp
  clear hp
  cases back with
  | true =>
    simp only [if_true]
    have hpow : Hid (powF (cF 3) (-(p : Int)) = ivF (cF 3) ^ p) := by
      refine hid ?_
      unfold powF
      by_cases h : p = 0
      · subst h; rw [if_neg (by omega)]; simp only [Int.natCast_zero, Int.neg_zero, Int.natAbs_zero]; rw [rpow_zero, rpow_zero]
      · rw [if_pos (by omega), Int.natAbs_neg, Int.natAbs_natCast]
    have hF := (Fwd.refl w).alloc (.cells #[.int .u32 0, .int .u32 0] 53)
    go_enter Try.func31, Try.ntmps31
    go_wp2_with fail
    refine (show Calls Try.prog 10 #[.int .u32 3, .int .i64 (-(p : Int))] _ _ from (Pow_any _ 3 (-(p : Int)) (by omega) (by omega) (by omega)).mono ?_)
    rintro e w1 ⟨rfl, rfl⟩
    rw [show cF ((3 : Nat)) = cF 3 from rfl, hpow.out]
    go_wp2_with fail
    refine (inverse_rem _ n (by omega)).mono ?_
    rintro e w2 ⟨rfl, rfl⟩
    go_wp2_with fail
    refine bodyPost_ret (by simp [results, Try.results31, go_sem]; try rfl) rfl ?_
    exact ⟨rfl, (Fwd.refl w).alloc _⟩
  | false =>
    have hpow : Hid (powF (cF 3) (p : Int) = cF 3 ^ p) := by
      refine hid ?_
      unfold powF
      rw [if_neg (by omega), Int.natAbs_natCast]
    go_enter Try.func31, Try.ntmps31
    go_wp2_with fail
    refine (show Calls Try.prog 10 #[.int .u32 3, .int .i64 (p : Int)] _ _ from (Pow_any _ 3 (p : Int) (by omega) (by omega) (by omega)).mono ?_)
    rintro e w1 ⟨rfl, rfl⟩
    rw [show cF ((3 : Nat)) = cF 3 from rfl, hpow.out]
    go_wp2_with fail
    refine bodyPost_ret (by simp [results, Try.results31, go_sem]; try rfl) rfl ?_
    exact ⟨by simp [vF_one], (Fwd.refl w).alloc _⟩

/-- How a step reads, as an element of a map. -/
def stepElem : Value → Option (DataW Unit × List MemPlace)
  | .agg cs => match cs.toList with
    | [.int .u32 a, .int .u32 b] => some (.agg [.lit (.int .u32 a), .lit (.int .u32 b)], [])
    | _ => none
  | _ => none
theorem stepElem_inv {v : Value} {a b : Int} {ps : List MemPlace} (h : stepElem v = some (.agg [.lit (.int .u32 a), .lit (.int .u32 b)], ps)) : v = .agg #[.int .u32 a, .int .u32 b] := by
  unfold stepElem at h
  split at h
  · rename_i cs
    split at h
    · rename_i x y e
      simp at h
      obtain ⟨⟨rfl, rfl⟩, rfl⟩ := h
      congr 1
      apply Array.ext'
      rw [e]
    · cases h
  · cases h
def stepD (back : Bool) (n : Nat) : DataW Unit := .agg [.lit (.int .u32 (vF (rtF back n) : Nat)), .lit (.int .u32 (vF (shF back n) : Nat))]
theorem stepElem_mk (back : Bool) (n : Nat) : stepElem (stepV back n) = some (stepD back n, []) := rfl

theorem keyed_int : Keyed Try.prog 3 := int_keyed Try.underlying3
theorem keyOf_n (n : Int) (h1 : -9223372036854775808 ≤ n) (h2 : n ≤ 9223372036854775807) : keyOf Try.prog 3 (.int .i64 n) = some (.int .i64 n) :=
  keyOf_int_mk Try.underlying3 (by simp [Lit.wf, IntKind.min, IntKind.max, IntKind.signed, IntKind.bits]; omega)

/-- Block b is the map of the first k steps. -/
def Steps (w : World) (b : Nat) (back : Bool) (k : Nat) : Prop := ∃ D m, w.ownsMap Try.prog 3 stepElem b m D ∧ m ≤ k ∧
  (∀ t, t < k → Maps.has D (.int .i64 ((2 ^ t : Nat) : Int)) = true ∧ ∀ z, D.atKey (.int .i64 ((2 ^ t : Nat) : Int)) z = stepD back (2 ^ t)) ∧
  ∀ n : Nat, (∀ t, t < k → n ≠ 2 ^ t) → Maps.has D (.int .i64 (n : Int)) = false
theorem Steps.fwd {w w' : World} {b : Nat} {back : Bool} {k : Nat} (h : Steps w b back k) (hf : Fwd w w') : Steps w' b back k := by
  obtain ⟨D, m, h1, h2⟩ := h
  exact ⟨D, m, h1.kept (hf.only w.heap.size) (by have := h1.lt; simp; omega), h2⟩
theorem Steps.only {w w' : World} {b g : Nat} {back : Bool} {k : Nat} (h : Steps w b back k) (hf : Only g w w') (hne : b ≠ g) : Steps w' b back k := by
  obtain ⟨D, m, h1, h2⟩ := h
  exact ⟨D, m, h1.kept hf (by simp [hne]), h2⟩
theorem Steps.lt {w : World} {b : Nat} {back : Bool} {k : Nat} (h : Steps w b back k) : b < w.heap.size := by
  obtain ⟨D, m, h1, h2⟩ := h
  exact h1.lt
theorem Steps.made (w : World) (back : Bool) : Steps (w.alloc (.map #[] 0)) w.heap.size back 0 :=
  ⟨_, 0, World.ownsMap_made w _ _ _, Nat.le_refl _, fun t h => absurd h (by omega), fun n _ => rfl⟩

theorem zero_step (w : World) : (zeroValue 53).run Try.prog w = .ok (.agg #[.int .u32 0, .int .u32 0]) w := by kernel_rfl

/-- m[n], of the map of all steps. -/
theorem law_look {w : World} {ops : Array Oper} {rest : List Oper} {o : Oper} {a : Act} {Q : Exit → Act → World → Prop} (hg : o.guard = none) (m x : Operand)
    (hop : o.op = Op.lookup 50 m x false) (b : Nat) (back : Bool) (k t : Nat) (hm : a.eval m = .map (some b)) (hS : Steps w b back k) (ht : t < k) (hk : k ≤ 20)
    (v : Int) (hx : a.eval x = .int .i64 v) (hv : v = ((2 ^ t : Nat) : Int))
    (h : wpList Try.prog ops Q rest (a.put o.dst (stepV back (2 ^ t))) w) : wpList Try.prog ops Q (o :: rest) a w := by
  subst hv
  obtain ⟨D, n, h1, h2, h3, h4⟩ := hS
  have hp : 2 ^ t ≤ 2 ^ 20 := Nat.pow_le_pow_right (by omega) (by omega)
  have h5 := (h3 t ht).2
  obtain ⟨N, hN⟩ : ∃ N, N = 2 ^ t := ⟨_, rfl⟩
  rw [← hN] at hp h5 hx h
  obtain ⟨v, ps, hrun, hR⟩ := h1.lookup keyed_int Try.underlying50 (zero_step w) (zd := .agg [.lit (.int .u32 0), .lit (.int .u32 0)]) (zp := []) rfl (keyOf_n (N : Int) (by omega) (by omega))
  rw [h5] at hR
  obtain rfl := stepElem_inv hR
  refine wpList_plain hg fun K hK => ?_
  unfold Oper.wp
  simp [execOp, hop, hm, hx, hrun, Result.andThen]
  exact hK _ _ h

/-- v, ok := m[n], of the map of all steps. -/
theorem law_look_ok {w : World} {ops : Array Oper} {rest : List Oper} {o : Oper} {a : Act} {Q : Exit → Act → World → Prop} (hg : o.guard = none) (m x : Operand)
    (hop : o.op = Op.lookup 50 m x true) (b : Nat) (back : Bool) (k n : Nat) (hm : a.eval m = .map (some b)) (hS : Steps w b back k)
    (v : Int) (hx : a.eval x = .int .i64 v) (hv : v = (n : Int)) (hn : n ≤ 9223372036854775807)
    (h : ∀ c1 c2 : Int, ∀ q : Bool, (q = true → ∃ t, t < k ∧ n = 2 ^ t) → (q = false → ∀ t, t < k → n ≠ 2 ^ t) → wpList Try.prog ops Q rest (a.put o.dst (.tuple #[.agg #[.int .u32 c1, .int .u32 c2], .bool q])) w) : wpList Try.prog ops Q (o :: rest) a w := by
  subst hv
  obtain ⟨D, m', h1, h2, h3, h4⟩ := hS
  obtain ⟨v, ps, hrun, hR⟩ := h1.look_ok keyed_int Try.underlying50 (zero_step w) (zd := .agg [.lit (.int .u32 0), .lit (.int .u32 0)]) (zp := []) rfl (keyOf_n (n : Int) (by omega) (by omega))
  have hq : ∃ c1 c2 : Int, v = .agg #[.int .u32 c1, .int .u32 c2] := by
    unfold stepElem at hR
    split at hR
    · rename_i cs
      split at hR
      · rename_i x y e
        exact ⟨x, y, by congr 1; apply Array.ext'; rw [e]⟩
      · cases hR
    · cases hR
  obtain ⟨c1, c2, rfl⟩ := hq
  refine wpList_plain hg fun K hK => ?_
  unfold Oper.wp
  simp [execOp, hop, hm, hx, hrun, Result.andThen]
  refine hK _ _ (h c1 c2 _ ?_ ?_)
  · intro hq
    by_cases hex : ∃ t, t < k ∧ n = 2 ^ t
    · exact hex
    · have := h4 n (fun t ht e => hex ⟨t, ht, e⟩)
      rw [this] at hq; cases hq
  · intro hq t ht e
    have := (h3 t ht).1
    rw [← e, hq] at this; cases this

/-- The next step is laid in. -/
theorem Steps.put {w : World} {b : Nat} {back : Bool} {k : Nat} (h : Steps w b back k) (hk : k ≤ 15) : ∃ w', (Instr.mapUpdate 50 (.map (some b)) (.int .i64 ((2 ^ k : Nat) : Int)) (stepV back (2 ^ k))).run Try.prog w = .ok () w' ∧ Steps w' b back (k + 1) ∧ Only b w w' := by
  obtain ⟨D, m, h1, h2, h3, h4⟩ := h
  have hp : 2 ^ k ≤ 2 ^ 15 := Nat.pow_le_pow_right (by omega) hk
  have hko : ∀ N : Nat, N ≤ 2 ^ 15 → keyOf Try.prog 3 (.int .i64 (N : Int)) = some (.int .i64 (N : Int)) := fun N hN => keyOf_n (N : Int) (by omega) (by omega)
  obtain ⟨w', hrun, r1, r2⟩ := h1.update keyed_int Try.underlying50 (by unfold maxLen; omega) (hko (2 ^ k) hp) (stepElem_mk back (2 ^ k))
  have hkl : WideAt.IsKeyLit (.int .i64 ((2 ^ k : Nat) : Int)) := keyed_int.key (hko (2 ^ k) hp)
  have hinj : ∀ n : Nat, n ≠ 2 ^ k → (Lit.int .i64 (n : Int)) ≠ .int .i64 ((2 ^ k : Nat) : Int) := fun n hn e => by
    simp only [Lit.int.injEq, true_and] at e
    omega
  refine ⟨w', hrun, ⟨_, m + 1, r1, by omega, ?_, ?_⟩, r2⟩
  · intro t ht
    by_cases e : t = k
    · subst e
      exact ⟨has_put_same h1.isMap hkl _, fun z => atKey_put_same h1.isMap hkl _ z⟩
    · have hne : 2 ^ t ≠ 2 ^ k := fun h => e ((Nat.pow_right_inj (by omega)).1 h)
      have := h3 t (by omega)
      exact ⟨by rw [has_put_other (hinj _ hne)]; exact this.1, fun z => by rw [atKey_put_other (hinj _ hne)]; exact this.2 z⟩
  · intro n hn
    rw [has_put_other (hinj n (hn k (by omega)))]
    exact h4 n (fun t ht => hn t (by omega))

set_option maxHeartbeats 1000000 in
theorem stepsOf_any (w : World) (back : Bool) :
    Calls Try.prog 22 #[.bool back] w fun e w' => ∃ b, e = .returned (.map (some b)) ∧ Steps w' b back 11 ∧ Fwd w w' ∧ w.heap.size ≤ b := by
  have hmm := @run_makeMap Try.prog
  go_enter Try.func22, Try.ntmps22
  go_wp2_with fail
  go_loopw [4] (fun i wr => ∃ k : Nat, k ≤ 11 ∧ i = .int .i64 ((2 ^ k : Nat) : Int) ∧ Steps wr w.heap.size back k ∧ Fwd w wr) (fun i _ => 2048 - (intOf i).toNat)
  case atStart => exact ⟨0, by omega, rfl, Steps.made w back, (Fwd.refl w).alloc _⟩
  case round =>
    obtain ⟨k, hk, rfl, hS, hF⟩ := hrel
    by_cases hlt : k < 11
    · have hp : 2 ^ k ≤ 2 ^ 10 := Nat.pow_le_pow_right (by omega) (by omega)
      have hp0 : 0 < 2 ^ k := Nat.two_pow_pos k
      have hks : 2 ^ (k + 1) = 2 * 2 ^ k := by rw [Nat.pow_succ]; omega
      have HS := hid hS
      have HF := hid hF
      have HK := hid hks
      clear hS hF hks
      obtain ⟨n, hn⟩ : ∃ n, n = 2 ^ k := ⟨_, rfl⟩
      have HN := hid hn
      rw [← hn] at hp hp0 ⊢
      clear hn
      go_wp2_with fail
      refine (stepOf_any _ n back hp0 (by omega)).mono ?_
      rintro e w1 ⟨rfl, hf⟩
      have hput := (HS.out.fwd hf).put (by omega)
      rw [← HN.out] at hput
      obtain ⟨w2, hrun, hS2, hO2⟩ := hput
      have HS2 := hid hS2
      have HF2 := hid ((HF.out.trans hf).wrote hO2 (Nat.le_refl _))
      clear hS2 hO2 hf
      go_wp2_with fail
      go_roundw
      case rel =>
        refine ⟨k + 1, by omega, ?_, HS2.out, HF2.out⟩
        rw [HK.out, ← HN.out]
        go_num
      case measure => simp [intOf]; omega
    · obtain rfl : k = 11 := by omega
      have HS := hid hS
      have HF := hid hF
      clear hS hF
      go_wp2_with fail
      go_ret
      exact ⟨_, rfl, HS.out, HF.out, Nat.le_refl _⟩

end Go.Proofs.Ytimlpehgafjkpaa
