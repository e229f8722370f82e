/- A reader of closed calls: operations that write nothing are what they say. -/
import Derived.Test.YtimlpehgafjkpaaXEV3
namespace Go.Ev
open Go.RowKit
set_option linter.unusedVariables false
set_option linter.unusedSimpArgs false

section
variable {M : Dom} {ρ : Env} {w : World} {P : Program} {B : Nat} {S : Tr (Bk)}

theorem sizeOf_run {t : TypeId} {i : TypeInfo} (h : P.info? t = some i) (w : World) : (sizeOf t).run P w = .ok i.size w := by simp [sizeOf, typeInfo, h]

theorem elem_slice {t e : TypeId} (h : P.underlying t = some (.slice e)) : P.elem t = e := by simp [Program.elem, h]

theorem cut3A_ok {ev : Operand → Option (AV)} {ρa : Operand → Value} (he : EvRel M ρ w ev ρa) {t : TypeId} {b off len : Nat} {c : Cap} {u : Value} {lo : Option Operand} {hi mx : Operand} {av : AV}
    (hu : (AC.slc b off len c : AC).rel M ρ w u) (h : cut3A P t b off len c (lo.map ev) (ev hi) (ev mx) = some av) :
    ∃ v, (Instr.sliceAt t u (lo.map ρa) (some (ρa hi)) (some (ρa mx))).run P w = .ok v w ∧ av.rel M ρ w v := by
  obtain ⟨p, k, hp, rfl, hlk, hkm, hc⟩ := hu
  have hcap : capOf len c ≤ k := by
    cases c with
    | known m => exact Nat.le_of_eq hc.symm
    | blk => exact hlk
    | any => exact hlk
  unfold cut3A at h
  split at h
  · rename_i e hte
    have ht : P.underlying t = some (.slice (P.elem t)) := by rw [elem_slice hte]; exact hte
    split at h
    · rename_i i hi2
      have hsz : (sizeOf (P.elem t)).run P w = .ok i.size w := by rw [elem_slice hte]; exact sizeOf_run hi2 w
      split at h
      · rename_i m' hm'
        split at h
        · rename_i h' hh'
          split at h
          · rename_i l' hl'
            obtain ⟨km, e1, _, e2⟩ := natOf_ok he hm'
            obtain ⟨kh, e3, _, e4⟩ := natOf_ok he hh'
            have hlb : l' ≤ h' ∧ (Instr.slice t (.slice (some ⟨p, off, none⟩) len k) (lo.map ρa) (some (ρa hi)) (some (ρa mx))).run P w = .ok (sliced (some ⟨p, off, none⟩) l' h' m' i.size) w := by
              cases lo with
              | none =>
                simp at hl'
                subst hl'
                refine ⟨by omega, ?_⟩
                rw [e1, e3]
                simp only [Option.map_none]
                rw [run_slice_hm w t _ _ _ ht kh km _ _ (by omega) (by omega) (by omega), hsz]; rfl
              | some x =>
                simp only [Option.map_some] at hl'
                obtain ⟨kl, e5, _, e6⟩ := natOf_ok he hl'
                refine ⟨e6, ?_⟩
                rw [e1, e3]
                simp only [Option.map_some, e5]
                rw [run_slice_lhm w t _ _ _ ht kl kh km _ _ _ (by omega) (by omega) (by omega) (by omega), hsz]; rfl
            rw [run_sliceAt_slice w t _ _ _ _ ht]
            refine ⟨_, hlb.2, ?_⟩
            have hl1 := hlb.1
            cases hb : Nat.beq m' l' with
            | true =>
              rw [hb] at h
              simp only [cond_true, Option.some.injEq] at h
              subst h
              obtain rfl : m' = l' := Nat.eq_of_beq_eq_true hb
              refine ⟨p, m' - m', hp, ?_, by omega, by omega, rfl⟩
              simp only [sliced, if_true]
            | false =>
              rw [hb] at h
              simp only [cond_false, Option.some.injEq] at h
              subst h
              have hne : m' ≠ l' := fun e => by rw [e] at hb; simp at hb
              refine ⟨p, m' - l', hp, ?_, by omega, by omega, rfl⟩
              simp only [sliced]
              rw [if_neg (by omega)]
              simp [Addr.add_mid]
          · cases h
        · cases h
      · cases h
    · cases h
  · cases h

theorem cutA_ok {ev : Operand → Option (AV)} {ρa : Operand → Value} (he : EvRel M ρ w ev ρa) {t : TypeId} {b off len : Nat} {c : Cap} {u : Value} {lo hi mx : Option Operand} {av : AV}
    (hu : (AC.slc b off len c : AC).rel M ρ w u) (h : cutA P t b off len c (lo.map ev) (hi.map ev) (mx.map ev) = some av) :
    ∃ v, (Instr.sliceAt t u (lo.map ρa) (hi.map ρa) (mx.map ρa)).run P w = .ok v w ∧ av.rel M ρ w v := by
  obtain ⟨p, k, hp, rfl, hlk, hkm, hc⟩ := hu
  unfold cutA at h
  split at h
  · rename_i e hte
    have ht : P.underlying t = some (.slice (P.elem t)) := by rw [elem_slice hte]; exact hte
    split at h
    · rename_i i hi2
      have hsz : (sizeOf (P.elem t)).run P w = .ok i.size w := by rw [elem_slice hte]; exact sizeOf_run hi2 w
      cases mx with
      | some m => simp at h
      | none =>
        simp only [Option.map_none] at h ⊢
        split at h
        · rename_i hh _ hhi
          split at h
          · rename_i l hl
            -- the bounds
            have hb : ∃ kh : Option (IntKind × Nat), hi.map ρa = kh.map (fun x => Value.int x.1 (x.2 : Int)) ∧ hh = (match kh with | none => len | some x => x.2) ∧ hh ≤ len := by
              cases hi with
              | none => simp at hhi; exact ⟨none, rfl, hhi.symm, by omega⟩
              | some x =>
                simp only [Option.map_some] at hhi
                obtain ⟨kd, h1, h2, h3⟩ := natOf_ok he hhi
                exact ⟨some (kd, hh), by simp [h1], rfl, h3⟩
            have hlb : ∃ kl : Option (IntKind × Nat), lo.map ρa = kl.map (fun x => Value.int x.1 (x.2 : Int)) ∧ l = (match kl with | none => 0 | some x => x.2) ∧ l ≤ hh := by
              cases lo with
              | none => simp at hl; exact ⟨none, rfl, hl.symm, by omega⟩
              | some x =>
                simp only [Option.map_some] at hl
                obtain ⟨kd, h1, h2, h3⟩ := natOf_ok he hl
                exact ⟨some (kd, l), by simp [h1], rfl, h3⟩
            obtain ⟨kh, e1, e2, hle1⟩ := hb
            obtain ⟨kl, e3, e4, hle2⟩ := hlb
            rw [e1, e3, run_sliceAt_slice w t _ _ _ _ ht]
            have hrun : (Instr.slice t (.slice (some ⟨p, off, none⟩) len k) (kl.map (fun x => Value.int x.1 (x.2 : Int))) (kh.map (fun x => Value.int x.1 (x.2 : Int))) none).run P w = .ok (sliced (some ⟨p, off, none⟩) l hh k i.size) w := by
              cases kl with
              | none =>
                cases kh with
                | none => simp only at e2 e4; subst e2 e4; simp only [Option.map_none]; rw [run_slice_all w t _ _ _ ht, hsz]; rfl
                | some x => simp only at e2 e4; subst e2 e4; simp only [Option.map_none, Option.map_some]; rw [run_slice_h w t _ _ _ ht x.1 _ (by omega) (by omega), hsz]; rfl
              | some y =>
                cases kh with
                | none => simp only at e2 e4; subst e2 e4; simp only [Option.map_none, Option.map_some]; rw [run_slice_l w t _ _ _ ht y.1 _ (by omega) (by omega), hsz]; rfl
                | some x => simp only at e2 e4; subst e2 e4; simp only [Option.map_some]; rw [run_slice_lh w t _ _ _ ht y.1 x.1 _ _ (by omega) (by omega) (by omega), hsz]; rfl
            refine ⟨_, hrun, ?_⟩
            cases hl0 : Nat.beq l 0 with
            | true =>
              rw [hl0] at h
              simp only [cond_true, Option.some.injEq] at h
              subst h
              obtain rfl : l = 0 := Nat.eq_of_beq_eq_true hl0
              refine ⟨p, k, hp, ?_, by omega, hkm, hc⟩
              simp only [sliced, Nat.zero_mul, Nat.sub_zero]
              split
              · rfl
              · simp [Addr.add_mid]
            | false =>
              rw [hl0] at h
              simp only [cond_false] at h
              cases c with
              | known m =>
                simp only at h hc
                subst hc
                cases hm : Nat.ble (l + 1) k with
                | false =>
                  rw [hm] at h
                  simp only [cond_false, Option.some.injEq] at h
                  subst h
                  have hnl : ¬ l + 1 ≤ k := fun hh => by rw [Nat.ble_eq_true_of_le hh] at hm; cases hm
                  refine ⟨p, k - l, hp, ?_, by omega, by omega, rfl⟩
                  simp only [sliced]
                  rw [if_pos (by omega)]
                | true =>
                  rw [hm] at h
                  simp only [cond_true, Option.some.injEq] at h
                  subst h
                  have := Nat.le_of_ble_eq_true hm
                  refine ⟨p, k - l, hp, ?_, by omega, by omega, rfl⟩
                  simp only [sliced]
                  rw [if_neg (by omega)]
                  simp [Addr.add_mid]
              | blk =>
                simp only at h
                cases hm : Nat.ble (l + 1) len with
                | false => rw [hm] at h; simp at h
                | true =>
                  rw [hm] at h
                  simp only [cond_true, Option.some.injEq] at h
                  subst h
                  have := Nat.le_of_ble_eq_true hm
                  refine ⟨p, k - l, hp, ?_, by omega, by omega, trivial⟩
                  simp only [sliced]
                  rw [if_neg (by omega)]
                  simp [Addr.add_mid]
              | any =>
                simp only at h
                cases hm : Nat.ble (l + 1) len with
                | false => rw [hm] at h; simp at h
                | true =>
                  rw [hm] at h
                  simp only [cond_true, Option.some.injEq] at h
                  subst h
                  have := Nat.le_of_ble_eq_true hm
                  refine ⟨p, k - l, hp, ?_, by omega, by omega, trivial⟩
                  simp only [sliced]
                  rw [if_neg (by omega)]
                  simp [Addr.add_mid]
          · cases h
        · cases h
    · cases h
  · cases h

theorem fieldA_ok {s : TypeId} {f : Nat} {fd : Field} (h : fieldA P s f = some fd) : ∃ fs, P.underlying s = some (.struct fs) ∧ fs[f]? = some fd := by
  unfold fieldA at h
  split at h
  · rename_i fs hs; exact ⟨fs, hs, h⟩
  · cases h

theorem wrapV {s : Sem Value} {v : Value} {w w' : World} (h : s.run P w = .ok v w') : (do pure (Next.value (← s)) : Sem Next).run P w = .ok (.value v) w' := by
  simp [h]

theorem isSlc_ok {x : Option (AV)} (h : isSlc x = true) : ∃ b off len c, x = some (.v (.one (.slc b off len c))) := by
  unfold isSlc at h
  split at h
  · exact ⟨_, _, _, _, rfl⟩
  · cases h
theorem isNilSlice_ok {x : Option (AV)} (h : isNilSlice x = true) : x = some (.v (.one (.lit (.slice none 0 0)))) := by
  unfold isNilSlice at h
  split at h
  · rfl
  · cases h

theorem run_equalIn_slice_some_nil {t e : TypeId} (ht : P.underlying t = some (.slice e)) (d : Nat) (a : Addr) (n c : Nat) (w : World) : (Op.equalIn (d + 1) t (.slice (some a) n c) (.slice none 0 0)).run P w = .ok false w := by
  simp [Op.equalIn, run_underlying ht]
theorem run_eql_slice_some_nil {t e : TypeId} (ht : P.underlying t = some (.slice e)) (a : Addr) (n c : Nat) (w : World) : (binOp .eql t (.slice (some a) n c) (.slice none 0 0)).run P w = .ok (.bool false) w := by
  have := run_equalIn_slice_some_nil ht 9999 a n c w
  show (do pure (Value.bool (← Op.equalIn (9999 + 1) t (.slice (some a) n c) (.slice none 0 0))) : Sem Value).run P w = _
  simp only [Sem.run_bind, this, Result.andThen_ok, Sem.run_pure]
theorem run_neq_slice_some_nil {t e : TypeId} (ht : P.underlying t = some (.slice e)) (a : Addr) (n c : Nat) (w : World) : (binOp .neq t (.slice (some a) n c) (.slice none 0 0)).run P w = .ok (.bool true) w := by
  have := run_equalIn_slice_some_nil ht 9999 a n c w
  show (do pure (Value.bool (!(← Op.equalIn (9999 + 1) t (.slice (some a) n c) (.slice none 0 0)))) : Sem Value).run P w = _
  simp only [Sem.run_bind, this, Result.andThen_ok, Sem.run_pure, Bool.not_false]

theorem lenOp_ok {ev : Operand → Option (AV)} {ρa : Operand → Value} {o : Oper} {c : Call} {av : AV} (he : EvRel M ρ w ev ρa) (hop : o.op = .call c) (h : lenOp P ev o c = some av) :
    ∃ v, (execOp ρa o).run P w = .ok (.value v) w ∧ av.rel M ρ w v := by
  unfold lenOp at h
  split at h
  · rename_i x t hc ha ht
    split at h
    · rename_i b off n cp e hx hte
      obtain rfl := Option.some.inj h
      obtain ⟨p, k, hp, hx', _⟩ := he _ _ hx
      refine ⟨.int .i64 n, ?_, rfl, rfl⟩
      obtain ⟨callee, args, argTypes⟩ := c
      simp only at hc ha ht
      subst hc
      obtain rfl : args = #[x] := by cases args; simp at ha; simp [ha]
      obtain rfl : argTypes = #[t] := by cases argTypes; simp at ht; simp [ht]
      have hl : (Builtin.len_ #[t] o.type #[ρa x]).run P w = .ok (.int .i64 n) w := by
        rw [hx']
        simp [Builtin.len_, run_underlying hte, goInt]
      unfold execOp
      rw [hop]
      simp only [resolve, Sem.run_bind, Sem.run_pure, Result.andThen_ok, invoke, builtin]
      simp [hl]
    · exact litOp_ok he h
  · exact litOp_ok he h

theorem nilOp_ok {ev : Operand → Option (AV)} {ρa : Operand → Value} {o : Oper} {b : BinOp} {t yt : TypeId} {x y : Operand} {av : AV} (he : EvRel M ρ w ev ρa) (hop : o.op = .binOp b t x y yt) (h : nilOp P ev o b t x y = some av) :
    ∃ v, (execOp ρa o).run P w = .ok (.value v) w ∧ av.rel M ρ w v := by
  unfold nilOp at h
  cases hc : (isSlc (ev x) && isNilSlice (ev y)) with
  | false => rw [hc] at h; exact litOp_ok he h
  | true =>
    rw [hc] at h
    simp only [cond_true] at h
    simp only [Bool.and_eq_true] at hc
    obtain ⟨b, off, len, c, hx⟩ := isSlc_ok hc.1
    have hy := isNilSlice_ok hc.2
    obtain ⟨p, k, hp, hx', _⟩ := he _ _ hx
    have hy' : ρa y = .slice none 0 0 := (he _ _ hy).1
    split at h
    · rename_i e hte
      obtain rfl := Option.some.inj h
      refine ⟨.bool false, ?_, rfl, rfl⟩
      unfold execOp
      rw [hop]
      simp only [hx', hy']
      refine wrapV ?_
      simp [Sem.run_bind, eqGuard, run_eql_slice_some_nil hte]
    · rename_i e hte
      obtain rfl := Option.some.inj h
      refine ⟨.bool true, ?_, rfl, rfl⟩
      unfold execOp
      rw [hop]
      simp only [hx', hy']
      refine wrapV ?_
      simp [Sem.run_bind, eqGuard, run_neq_slice_some_nil hte]
    · cases h

theorem wslow_eq (n : Int) : wslow n = IntKind.i64.wrap n := by rw [IntKind.wrap_i64]; rfl
theorem wrapS_eq (n : Int) : wrapS n = IntKind.i64.wrap n := by
  cases n with
  | ofNat m =>
    show (bif Nat.beq (m / 9223372036854775808) 0 then Int.ofNat m else wslow (.ofNat m)) = _
    rw [beq_nat, cond_decide, wslow_eq]
    split
    · rw [IntKind.wrap_i64, Int.ofNat_eq_natCast]; omega
    · rfl
  | negSucc m =>
    show (bif Nat.beq (m / 9223372036854775808) 0 then Int.negSucc m else wslow (.negSucc m)) = _
    rw [beq_nat, cond_decide, wslow_eq]
    split
    · rw [IntKind.wrap_i64]; omega
    · rfl

theorem wrapF_eq (k : IntKind) (n : Int) : wrapF k n = k.wrap n := by
  cases k
  case i64 => exact wrapS_eq n
  case u64 =>
    rw [IntKind.wrap_u64]
    cases n with
    | ofNat m =>
      show Int.ofNat (m % 18446744073709551616) = Int.ofNat m % 18446744073709551616
      rw [Int.ofNat_eq_natCast, Int.ofNat_eq_natCast]; omega
    | negSucc m => rfl
  case u32 =>
    rw [IntKind.wrap_u32]
    cases n with
    | ofNat m =>
      show Int.ofNat (m % 4294967296) = Int.ofNat m % 4294967296
      rw [Int.ofNat_eq_natCast, Int.ofNat_eq_natCast]; omega
    | negSucc m => rfl
  case u8 =>
    rw [IntKind.wrap_u8]
    cases n with
    | ofNat m =>
      show Int.ofNat (m % 256) = Int.ofNat m % 256
      rw [Int.ofNat_eq_natCast, Int.ofNat_eq_natCast]; omega
    | negSucc m => rfl
  all_goals rfl

theorem sameKind_eq {a b : IntKind} (h : sameKind a b = true) : a = b := by
  cases a <;> cases b <;> simp [sameKind] at h <;> rfl

theorem ltI_eq (a b : Int) : ltI a b = decide (a < b) := by
  rw [Bool.eq_iff_iff, decide_eq_true_eq]
  cases a <;> cases b <;> simp only [ltI, Nat.ble_eq, Bool.false_eq_true, true_iff, false_iff, Int.ofNat_eq_natCast] <;> omega
theorem eqI_eq (a b : Int) : eqI a b = (a == b) := by
  rw [Bool.eq_iff_iff, beq_iff_eq]
  cases a <;> cases b <;> simp only [eqI, beq_nat, decide_eq_true_eq, Bool.false_eq_true, false_iff, Int.ofNat_eq_natCast] <;> omega

theorem xor_ones {n W : Nat} (h : n < 2 ^ W) : n ^^^ (2 ^ W - 1) = 2 ^ W - 1 - n := by
  have h1 : (BitVec.ofNat W n ^^^ BitVec.allOnes W).toNat = n ^^^ (2 ^ W - 1) := by rw [BitVec.toNat_xor, BitVec.toNat_allOnes, BitVec.toNat_ofNat, Nat.mod_eq_of_lt h]
  have h2 : (~~~ (BitVec.ofNat W n)).toNat = 2 ^ W - 1 - n := by rw [BitVec.toNat_not, BitVec.toNat_ofNat, Nat.mod_eq_of_lt h]
  rw [← h1, ← h2, BitVec.xor_allOnes]

theorem bits_run {op : BinOp} {m n W : Nat} {k : IntKind} (hk : ∀ x, k.wrap x = x % ((2 ^ W : Nat) : Int)) (hb : k.bits = W) (hm : m < 2 ^ W) (hn : n < 2 ^ W) {r : Nat} (hr : r < 2 ^ W)
    (f : ∀ w : Nat, BitVec w → BitVec w → BitVec w) (hf : Go.bits op k (m : Int) (n : Int) = k.wrap ((f k.bits (BitVec.ofInt k.bits (m : Int)) (BitVec.ofInt k.bits (n : Int))).toNat : Nat))
    (h : ∀ a b : BitVec W, a.toNat = m → b.toNat = n → (f W a b).toNat = r) : Go.bits op k (m : Int) (n : Int) = (r : Int) := by
  subst hb
  have e1 : (BitVec.ofInt k.bits (m : Int)).toNat = m := by simp [Nat.mod_eq_of_lt hm]
  have e2 : (BitVec.ofInt k.bits (n : Int)).toNat = n := by simp [Nat.mod_eq_of_lt hn]
  rw [hf, h _ _ e1 e2, hk, ← Int.natCast_emod, Nat.mod_eq_of_lt hr]

theorem bitsF_ok {b : BinOp} {m n W : Nat} {k : IntKind} {v : Value} (hk : ∀ x, k.wrap x = x % ((2 ^ W : Nat) : Int)) (hb : k.bits = W) (h : bitsF b m n (2 ^ W) k = some v) (t : TypeId) :
    binOp b t (.int k (m : Int)) (.int k (n : Int)) = pure v := by
  unfold bitsF at h
  cases hc : (Nat.ble (m + 1) (2 ^ W) && Nat.ble (n + 1) (2 ^ W)) with
  | false => rw [hc] at h; simp at h
  | true =>
    rw [hc] at h
    simp only [cond_true] at h
    simp only [Bool.and_eq_true, Nat.ble_eq] at hc
    obtain ⟨h1, h2⟩ := hc
    have hm : m < 2 ^ W := h1
    have hn : n < 2 ^ W := h2
    split at h
    · obtain rfl := Option.some.inj h
      rw [binOp_and, intBits_and, bits_run hk hb hm hn (r := m &&& n) (Nat.and_lt_two_pow _ hn) (fun _ a b => a &&& b) (by simp only [Go.bits]) (fun a b ha hb => by simp [ha, hb])]; rfl
    · obtain rfl := Option.some.inj h
      rw [binOp_or, intBits_or, bits_run hk hb hm hn (r := m ||| n) (Nat.or_lt_two_pow hm hn) (fun _ a b => a ||| b) (by simp only [Go.bits]) (fun a b ha hb => by simp [ha, hb])]; rfl
    · obtain rfl := Option.some.inj h
      rw [binOp_xor, intBits_xor, bits_run hk hb hm hn (r := m ^^^ n) (Nat.xor_lt_two_pow hm hn) (fun _ a b => a ^^^ b) (by simp only [Go.bits]) (fun a b ha hb => by simp [ha, hb])]; rfl
    · obtain rfl := Option.some.inj h
      have e : (n ^^^ (2 ^ W - 1)) = 2 ^ W - 1 - n := xor_ones hn
      rw [binOp_andNot, intBits_andNot, bits_run hk hb hm hn (r := m &&& (n ^^^ (2 ^ W - 1))) (Nat.and_lt_two_pow _ (Nat.xor_lt_two_pow hn (by have := Nat.two_pow_pos W; omega))) (fun _ a b => a &&& ~~~b) (by simp only [Go.bits]) (fun a b ha hb => by simp [ha, hb, e])]; rfl
    · cases h

theorem intShift_ok {left : Bool} {k k' : IntKind} {x y : Int} {v : Value} (h : intShift left k x y = some v) : Op.shift (if left then .shl else .shr) k x k' y = pure v := by
  unfold intShift at h
  split at h
  · rename_i m n
    cases hn : Nat.ble n 64 with
    | false => rw [hn] at h; simp at h
    | true =>
      rw [hn] at h
      simp only [cond_true] at h
      have hn' := Nat.le_of_ble_eq_true hn
      split at h
      · cases left with
        | true =>
          simp only [cond_true] at h
          obtain rfl := Option.some.inj h
          simp only [if_true, Int.ofNat_eq_natCast]
          rw [shift_shl _ _ _ _ (by omega) (by simp [IntKind.bits]; omega), IntKind.wrap_u64]
          congr 2
          simp [Nat.shiftLeft_eq]
        | false =>
          simp only [cond_false] at h
          obtain rfl := Option.some.inj h
          simp only [Bool.false_eq_true, if_false, Int.ofNat_eq_natCast]
          rw [shift_shr _ _ _ _ (by omega) (by simp [IntKind.bits]; omega)]
          congr 2
          simp [Nat.shiftRight_eq_div_pow]
      · cases hn2 : Nat.ble n 32 with
        | false => rw [hn2] at h; simp at h
        | true =>
          rw [hn2] at h
          simp only [cond_true] at h
          have hn3 := Nat.le_of_ble_eq_true hn2
          cases left with
          | true =>
            simp only [cond_true] at h
            obtain rfl := Option.some.inj h
            simp only [if_true, Int.ofNat_eq_natCast]
            rw [shift_shl _ _ _ _ (by omega) (by simp [IntKind.bits]; omega), IntKind.wrap_u32]
            congr 2
            simp [Nat.shiftLeft_eq]
          | false =>
            simp only [cond_false] at h
            obtain rfl := Option.some.inj h
            simp only [Bool.false_eq_true, if_false, Int.ofNat_eq_natCast]
            rw [shift_shr _ _ _ _ (by omega) (by simp [IntKind.bits]; omega)]
            congr 2
            simp [Nat.shiftRight_eq_div_pow]
      · cases left with
        | true =>
          simp only [cond_true] at h
          obtain rfl := Option.some.inj h
          simp only [if_true, Int.ofNat_eq_natCast]
          rw [shift_shl _ _ _ _ (by omega) (by simp [IntKind.bits]; omega), wrapF_eq]
          congr 3
          simp [Nat.shiftLeft_eq]
        | false =>
          simp only [cond_false] at h
          obtain rfl := Option.some.inj h
          simp only [Bool.false_eq_true, if_false, Int.ofNat_eq_natCast]
          rw [shift_shr _ _ _ _ (by omega) (by simp [IntKind.bits]; omega)]
          congr 2
          simp [Nat.shiftRight_eq_div_pow]
      · cases h
  · cases h

theorem intBin_ok {b : BinOp} {k k' : IntKind} {x y : Int} {v : Value} (h : intBin b k x k' y = some v) (t : TypeId) : binOp b t (.int k x) (.int k' y) = pure v := by
  have same : ∀ {r : Option Value}, (bif sameKind k k' then r else none) = some v → k = k' ∧ r = some v := by
    intro r hr
    cases hs : sameKind k k' with
    | false => rw [hs] at hr; simp at hr
    | true => rw [hs] at hr; exact ⟨sameKind_eq hs, hr⟩
  have nonneg : ∀ {b : BinOp}, intBits b k x y = some v → k = k' → binOp b t (.int k x) (.int k' y) = pure v := by
    intro b hb hk
    subst hk
    unfold intBits at hb
    split at hb
    · exact bitsF_ok (W := 64) (fun x => IntKind.wrap_u64 x) rfl hb t
    · exact bitsF_ok (W := 32) (fun x => IntKind.wrap_u32 x) rfl hb t
    · cases hb
  unfold intBin at h
  cases b
  case shl => simp only at h; rw [binOp_shl]; exact intShift_ok (left := true) h
  case shr => simp only at h; rw [binOp_shr]; exact intShift_ok (left := false) h
  case add =>
    obtain ⟨rfl, h'⟩ := same (r := some (.int k (wrapF k (x + y)))) h; obtain rfl := Option.some.inj h'; rw [binOp_add, wrapF_eq]; rfl
  case sub =>
    obtain ⟨rfl, h'⟩ := same (r := some (.int k (wrapF k (x - y)))) h; obtain rfl := Option.some.inj h'; rw [binOp_sub, wrapF_eq]; rfl
  case mul =>
    obtain ⟨rfl, h'⟩ := same (r := some (.int k (wrapF k (x * y)))) h; obtain rfl := Option.some.inj h'; rw [binOp_mul, wrapF_eq]; rfl
  case eql =>
    obtain ⟨rfl, h'⟩ := same (r := some (.bool (eqI x y))) h; obtain rfl := Option.some.inj h'; rw [binOp_eql, eqI_eq]
  case neq =>
    obtain ⟨rfl, h'⟩ := same (r := some (.bool (!(eqI x y)))) h; obtain rfl := Option.some.inj h'; rw [binOp_neq, eqI_eq]; rfl
  case lss =>
    obtain ⟨rfl, h'⟩ := same (r := some (.bool (ltI x y))) h; obtain rfl := Option.some.inj h'; rw [binOp_lss, ltI_eq]
  case leq =>
    obtain ⟨rfl, h'⟩ := same (r := some (.bool (!(ltI y x)))) h; obtain rfl := Option.some.inj h'; rw [binOp_leq, ltI_eq]
    congr 2; rw [Bool.eq_iff_iff]; simp
  case gtr =>
    obtain ⟨rfl, h'⟩ := same (r := some (.bool (ltI y x))) h; obtain rfl := Option.some.inj h'; rw [binOp_gtr, ltI_eq]
  case geq =>
    obtain ⟨rfl, h'⟩ := same (r := some (.bool (!(ltI x y)))) h; obtain rfl := Option.some.inj h'; rw [binOp_geq, ltI_eq]
    congr 2; rw [Bool.eq_iff_iff]; simp
  case quo => obtain ⟨hk, h⟩ := same (r := intBits .quo k x y) h; exact nonneg h hk
  case rem => obtain ⟨hk, h⟩ := same (r := intBits .rem k x y) h; exact nonneg h hk
  case and => obtain ⟨hk, h⟩ := same (r := intBits .and k x y) h; exact nonneg h hk
  case or => obtain ⟨hk, h⟩ := same (r := intBits .or k x y) h; exact nonneg h hk
  case xor => obtain ⟨hk, h⟩ := same (r := intBits .xor k x y) h; exact nonneg h hk
  case andNot => obtain ⟨hk, h⟩ := same (r := intBits .andNot k x y) h; exact nonneg h hk

theorem eqGuard_ints (op : BinOp) (t : TypeId) (x y : Operand) (k k' : IntKind) (a c : Int) : eqGuard op t x y (.int k a) (.int k' c) = pure () := by cases op <;> rfl

theorem binA_ok {ev : Operand → Option (AV)} {ρa : Operand → Value} {o : Oper} {b : BinOp} {t yt : TypeId} {x y : Operand} {av : AV} (he : EvRel M ρ w ev ρa) (hop : o.op = .binOp b t x y yt) (h : binA P ev o b t x y = some av) :
    ∃ v, (execOp ρa o).run P w = .ok (.value v) w ∧ av.rel M ρ w v := by
  unfold binA at h
  split at h
  · rename_i k a k' c hx hy
    split at h
    · rename_i v hv
      have hx' : ρa x = .int k a := (he _ _ hx).1
      have hy' : ρa y = .int k' c := (he _ _ hy).1
      have hb := intBin_ok hv t
      cases hone : v.oneCell' with
      | false => rw [hone] at h; simp at h
      | true =>
      rw [hone] at h
      simp only [cond_true] at h
      obtain rfl := Option.some.inj h
      refine ⟨v, ?_, rfl, hone⟩
      unfold execOp
      rw [hop]
      simp only [hx', hy']
      refine wrapV ?_
      simp [Sem.run_bind, eqGuard_ints, hb]
    · exact litOp_ok he h
  · exact nilOp_ok he hop h

theorem convA_ok {ev : Operand → Option (AV)} {ρa : Operand → Value} {o : Oper} {src dst : TypeId} {x : Operand} {av : AV} (he : EvRel M ρ w ev ρa) (hop : o.op = .convert src dst x) (h : convA P ev o src dst x = some av) :
    ∃ v, (execOp ρa o).run P w = .ok (.value v) w ∧ av.rel M ρ w v := by
  unfold convA at h
  split at h
  · rename_i k0 n k d hx hd hs
    obtain rfl := Option.some.inj h
    have hx' : ρa x = .int k0 n := (he _ _ hx).1
    refine ⟨.int k (wrapF k n), ?_, rfl, rfl⟩
    unfold execOp
    rw [hop]
    simp only [hx']
    refine wrapV ?_
    simp [convert, run_underlying hs, run_underlying hd, Conv.intToInt, wrapF_eq]
  · exact litOp_ok he h

theorem unA_ok {ev : Operand → Option (AV)} {ρa : Operand → Value} {o : Oper} {u : UnOp} {t : TypeId} {x : Operand} {av : AV} (he : EvRel M ρ w ev ρa) (hop : o.op = .unOp u t x) (h : unA P ev o u x = some av) :
    ∃ v, (execOp ρa o).run P w = .ok (.value v) w ∧ av.rel M ρ w v := by
  unfold unA at h
  split at h
  · rename_i b hx
    obtain rfl := Option.some.inj h
    have hx' : ρa x = .bool b := (he _ _ hx).1
    refine ⟨.bool (!b), ?_, rfl, rfl⟩
    unfold execOp
    rw [hop]
    simp only [hx']
    exact wrapV rfl
  · exact litOp_ok he h

set_option maxHeartbeats 1000000 in
theorem stillOp_ok (hS : SRel M B ρ w S) {ev : Operand → Option (AV)} {ρa : Operand → Value} {o : Oper} {av : AV} (he : EvRel M ρ w ev ρa) (h : stillOp P ev S o = some av) :
    ∃ v, (execOp ρa o).run P w = .ok (.value v) w ∧ av.rel M ρ w v := by
  obtain ⟨dst, op, type, pos, after, guard⟩ := o
  unfold stillOp at h
  split at h
  · rename_i x hop
    simp only at hop; subst hop
    exact ⟨ρa x, rfl, he _ _ h⟩
  · rename_i x hop
    simp only at hop; subst hop
    exact ⟨ρa x, rfl, he _ _ h⟩
  · rename_i c a b hop
    simp only at hop; subst hop
    split at h
    · rename_i t hc
      have hct : ρa c = .bool t := (he _ _ hc).1
      refine ⟨if t then ρa a else ρa b, ?_, ?_⟩
      · simp [execOp, hct, asBool]
      · cases t with
        | true => exact he _ _ h
        | false => exact he _ _ h
    · cases h
  · rename_i ty x hop
    simp only at hop; subst hop
    split at h
    · rename_i b off hx
      obtain ⟨p, hp, v, hv, hr⟩ := loadA_ok hS h
      obtain ⟨p', hp', hx'⟩ := he _ _ hx
      obtain rfl : p = p' := Option.some.inj (hp.symm.trans hp')
      refine ⟨v, ?_, hr⟩
      simp only [execOp, hx', Instr.loadAt, Instr.sureAddr]
      exact wrapV hv
    · cases h
  · rename_i s x f hop
    simp only at hop; subst hop
    split at h
    · rename_i b off fd hx hfd
      split at h
      · rename_i i hi
        cases hz : Nat.beq i.size 0 with
        | true => rw [hz] at h; simp at h
        | false =>
          rw [hz] at h
          simp only [cond_false, Option.some.injEq] at h
          subst h
          obtain ⟨p, hp, hx'⟩ := he _ _ hx
          obtain ⟨fs, hs, hf⟩ := fieldA_ok hfd
          have hne : ¬ i.size = 0 := fun e => by rw [e] at hz; simp at hz
          refine ⟨.pointer (some ⟨p, off + fd.offset, none⟩), ?_, p, hp, rfl⟩
          simp only [execOp, hx']
          refine wrapV ?_
          simp [Instr.fieldAt, run_underlying hs, hf, Instr.sureAddr, fieldPlace, sizeOf_run hi, hne, Addr.add_mid]
      · cases h
    · cases h
  · rename_i s x f hop
    simp only at hop; subst hop
    split at h
    · rename_i cs fd hx hfd
      obtain ⟨us, hx', hr⟩ := he _ _ hx
      obtain ⟨fs, hs, hf⟩ := fieldA_ok hfd
      obtain ⟨v, hv, hvr⟩ := partA_ok hr h
      refine ⟨v, ?_, hvr⟩
      simp only [execOp, hx']
      refine wrapV ?_
      simp [Instr.field, run_underlying hs, hf, asAgg, hv]
    · cases h
  · rename_i t x ix hop
    simp only at hop; subst hop
    split at h
    · rename_i b off len c e hx hte
      split at h
      · rename_i i j hi hj
        cases hl : Nat.ble (j + 1) len with
        | false => rw [hl] at h; simp at h
        | true =>
          rw [hl] at h
          simp only [cond_true, Option.some.injEq] at h
          subst h
          have hlt := Nat.le_of_ble_eq_true hl
          obtain ⟨p, k, hp, hx', _⟩ := he _ _ hx
          obtain ⟨kd, hj', _, _⟩ := natOf_ok he hj
          refine ⟨.pointer (some ⟨p, off + j * i.size, none⟩), ?_, p, hp, rfl⟩
          simp only [execOp, hx', hj']
          refine wrapV ?_
          simp [Instr.indexAt, run_underlying hte, asIntOf, sizeOf_run hi, Addr.add_mid]
          omega
      · cases h
    · rename_i b off len e hx hte
      split at h
      · rename_i i j hi hj
        cases hl : Nat.ble (j + 1) len with
        | false => rw [hl] at h; simp at h
        | true =>
          rw [hl] at h
          simp only [cond_true, Option.some.injEq] at h
          subst h
          have hlt := Nat.le_of_ble_eq_true hl
          obtain ⟨p, hp, hx'⟩ := he _ _ hx
          obtain ⟨kd, hj', _, _⟩ := natOf_ok he hj
          refine ⟨.pointer (some ⟨p, off + j * i.size, none⟩), ?_, p, hp, rfl⟩
          simp only [execOp, hx', hj']
          refine wrapV ?_
          simp [Instr.indexAt, run_underlying hte, asIntOf, sizeOf_run hi, Addr.add_mid, Instr.sureAddr]
          omega
      · cases h
    · cases h
  · rename_i t x ix hop
    simp only at hop; subst hop
    split at h
    · rename_i cs len e hx hte
      split at h
      · rename_i i j hi hj
        cases hl : Nat.ble (j + 1) len with
        | false => rw [hl] at h; simp at h
        | true =>
          rw [hl] at h
          simp only [cond_true] at h
          have hlt := Nat.le_of_ble_eq_true hl
          obtain ⟨us, hx', hr⟩ := he _ _ hx
          obtain ⟨kd, hj', _, _⟩ := natOf_ok he hj
          obtain ⟨v, hv, hvr⟩ := partA_ok hr h
          refine ⟨v, ?_, hvr⟩
          simp only [execOp, hx', hj']
          refine wrapV ?_
          have : (0 : Int) ≤ (j : Int) ∧ (j : Int) < (len : Int) := by omega
          simp [Instr.index, run_underlying hte, asIntOf, sizeOf_run hi, hlt, hv]
          omega
      · cases h
    · exact litOp_ok he h
  · rename_i t x lo hi mx hop
    simp only at hop; subst hop
    split at h
    · rename_i b off len c hx
      split at h
      · obtain ⟨v, hv, hr⟩ := cut3A_ok he (he _ _ hx) h
        exact ⟨v, wrapV hv, hr⟩
      · obtain ⟨v, hv, hr⟩ := cutA_ok he (he _ _ hx) h
        exact ⟨v, wrapV hv, hr⟩
    · exact litOp_ok he h
  · rename_i x ix hop
    simp only at hop; subst hop
    split at h
    · rename_i xs hx
      simp only [Option.map_eq_some_iff] at h
      obtain ⟨y, hy, rfl⟩ := h
      obtain ⟨us, hx', hr⟩ := he _ _ hx
      obtain ⟨u, hu, hyu⟩ := hr.get hy
      refine ⟨u, ?_, hyu⟩
      simp only [execOp, hx']
      refine wrapV ?_
      simp [Instr.extract, hu]
    · cases h
  · rename_i t parts hop
    simp only at hop; subst hop
    obtain ⟨v, hv, hr⟩ := buildA_ok he h
    exact ⟨v, wrapV hv, hr⟩
  · rename_i c hop
    exact lenOp_ok he hop h
  · rename_i b t x y yt hop
    exact binA_ok he hop h
  · rename_i src dst x hop
    exact convA_ok he hop h
  · rename_i u t x hop
    exact unA_ok he hop h
  · exact litOp_ok he h
end
end Go.Ev
