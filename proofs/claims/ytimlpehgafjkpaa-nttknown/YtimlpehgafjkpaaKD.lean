/- Shifts of nat: the laws for copy and clear over a row of the call's own, moveUp. -/
/- Shifts of nat: moveDown, Shl, Shr. -/
/- The second telling of shifts; within. -/
import Derived.Test.YtimlpehgafjkpaaKC
import Derived.Deep.Cut
namespace Go.Proofs.Ytimlpehgafjkpaa
open Go.RowKit
set_option linter.unusedVariables false

/-- copy(dst, src), whichever is the longer one; src may lie in the same row. -/
theorem law_copyM {w : World} {ops : Array Oper} {rest : List Oper} {o : Oper} {a : Act} {Q : Exit → Act → World → Prop} (hgd : o.guard = none) (d s : Operand)
    (ho : o.op = .call { callee := .builtin .copy, args := #[d, s], argTypes := #[27, 27] })
    (g off n cap : Nat) (v : Value) (hd : a.eval d = .slice (some ⟨g, off, none⟩) n cap) (hs : a.eval s = v)
    (pre xs post cs : List Nat) (hb : Blk w g (pre ++ (xs ++ post))) (hoff : off = pre.length) (hn : n = xs.length) (hv : Rd w v cs)
    (h : ∀ w', Blk w' g (pre ++ ((cs.take xs.length ++ xs.drop cs.length) ++ post)) → Only g w w' → wpList Try.prog ops Q rest (a.put o.dst (goInt (min cs.length xs.length : Nat))) w') :
    wpList Try.prog ops Q (o :: rest) a w := by
  subst hoff hn
  have h2 := hb.2
  have hp : Ok pre := fun x hx => h2 x (by simp [hx])
  have hxk : Ok xs := fun x hx => h2 x (by simp [hx])
  have hq : Ok post := fun x hx => h2 x (by simp [hx])
  have hok : Ok (pre ++ ((cs.take xs.length ++ xs.drop cs.length) ++ post)) := hp.append (((hv.ok.take _).append (hxk.drop _)).append hq)
  by_cases h0 : min cs.length xs.length = 0
  · have hs' : ∃ sp sc, v = .slice sp cs.length sc := by
      rcases hv.2 with ⟨e, e2⟩ | ⟨b, off, c, e, _⟩
      · subst e2; exact ⟨none, 0, e⟩
      · exact ⟨_, _, e⟩
    obtain ⟨sp, sc, e⟩ := hs'
    refine wpList_copy_nothing hgd d s 27 27 ho 22 Try.underlying27 size_u32 (some ⟨g, pre.length, none⟩) sp xs.length cap cs.length sc hd (hs.trans e) h0 ?_
    have e1 : cs.take xs.length ++ xs.drop cs.length = xs := by
      rcases (show cs.length = 0 ∨ xs.length = 0 by omega) with h1 | h1
      · obtain rfl := List.eq_nil_of_length_eq_zero h1; simp
      · obtain rfl := List.eq_nil_of_length_eq_zero h1; simp
    have := h w (by rw [e1]; exact hb) (Only.refl _ _)
    rw [h0] at this
    exact this
  · rcases hv.2 with ⟨_, e⟩ | ⟨b, so, c, e, h1, hc2, h3, h4⟩
    · subst e; simp at h0
    · have hcl : (cellsOf (cs.take xs.length)).length = min cs.length xs.length := by simp [cellsOf]; omega
      refine wpList_copy_own hgd d s 27 27 ho 22 Try.underlying27 size_u32 g pre.length xs.length cap ⟨b, so, none⟩ cs.length c hd (hs.trans e) (cellsOf (pre ++ (xs ++ post))).toArray 22 hb.1 (cellsOf (cs.take xs.length))
        hcl ?_ (by rw [hcl]; simp [cellsOf]; omega) ?_ ?_
      · intro j u hj
        have hjl : j < cs.length ∧ j < xs.length := by
          have := (List.getElem?_eq_some_iff.1 hj).1
          simp [cellsOf] at this; omega
        have := h3 j hjl.1
        simp [cellsOf, hjl.1, hjl.2] at hj
        rw [show (⟨b, so, none⟩ : Addr).add j = ⟨b, so + j, none⟩ from by unfold Addr.add; split <;> simp_all, this, ← hj]
        simp [hjl.1]
      · intro u hu
        simp only [cellsOf, List.mem_map] at hu
        obtain ⟨x, _, rfl⟩ := hu; rfl
      · have hle : (cs.take xs.length).length ≤ xs.length := by rw [List.length_take]; omega
        have e2 : (cellsOf (pre ++ (xs ++ post))).toArray.toList.take pre.length ++ (cellsOf (cs.take xs.length) ++ (cellsOf (pre ++ (xs ++ post))).toArray.toList.drop (pre.length + (cellsOf (cs.take xs.length)).length)) = cellsOf (pre ++ ((cs.take xs.length ++ xs.drop (cs.take xs.length).length) ++ post)) := splice_append hle
        have e4 : xs.drop (cs.take xs.length).length = xs.drop cs.length := by
          rw [List.length_take]
          rcases Nat.le_total cs.length xs.length with h5 | h5
          · rw [Nat.min_eq_right h5]
          · rw [Nat.min_eq_left h5, List.drop_eq_nil_of_le (Nat.le_refl _), List.drop_eq_nil_of_le h5]
        rw [e4] at e2
        rw [e2, hcl]
        refine h _ ⟨setRow_heap w g _ _ _ _ hb.1, hok⟩ ?_
        exact ⟨rfl, rfl, rfl, by simp [World.setRow], fun k _ he => setRow_other w g k _ (by simp at he; omega)⟩

/-- clear(s), s a piece of the call's own row. -/
theorem law_clear {w : World} {ops : Array Oper} {rest : List Oper} {o : Oper} {a : Act} {Q : Exit → Act → World → Prop} (hgd : o.guard = none) (d : Operand)
    (ho : o.op = .call { callee := .builtin .clear, args := #[d], argTypes := #[27] })
    (g off n cap : Nat) (hd : a.eval d = .slice (some ⟨g, off, none⟩) n cap)
    (pre xs post : List Nat) (hb : Blk w g (pre ++ (xs ++ post))) (hoff : off = pre.length) (hn : n = xs.length)
    (h : ∀ w', Blk w' g (pre ++ (List.replicate xs.length 0 ++ post)) → Only g w w' → wpList Try.prog ops Q rest (a.put o.dst (.tuple #[])) w') :
    wpList Try.prog ops Q (o :: rest) a w := by
  subst hoff hn
  refine wpList_plain hgd fun K hK => ?_
  have hrun : ∃ w', (Builtin.clear_ #[27] o.type #[.slice (some ⟨g, pre.length, none⟩) xs.length cap]).run Try.prog w = .ok (.tuple #[]) w' ∧ Blk w' g (pre ++ (List.replicate xs.length 0 ++ post)) ∧ Only g w w' := by
    obtain ⟨i, hi, hz0, hz1, hz2⟩ := info_parts info_u32
    by_cases h0 : xs.length = 0
    · obtain rfl := List.eq_nil_of_length_eq_zero h0
      refine ⟨w, ?_, by simpa using hb, Only.refl _ _⟩
      simp [Builtin.clear_, run_underlying Try.underlying27]
    · have hst := run_storeCells_at Try.prog g pre.length 22 (cellsOf (List.replicate xs.length 0)) 0 (cellsOf (pre ++ (xs ++ post))).toArray w hb.1 (by simp [cellsOf]) (by
        intro u hu
        simp only [cellsOf, List.mem_map] at hu
        obtain ⟨x, _, rfl⟩ := hu; rfl)
      have e3 : (Builtin.zeroCells (Value.int .u32 0).cells xs.length).toList = cellsOf (List.replicate xs.length 0) := by
        apply List.ext_getElem
        · simp [Builtin.zeroCells, Value.cells, cellsOf]
        · intro i h1 h2
          simp [Builtin.zeroCells, Value.cells, cellsOf, Nat.mod_one]
      have hrun0 : (Builtin.clear_ #[27] o.type #[.slice (some ⟨g, pre.length, none⟩) xs.length cap]).run Try.prog w = .ok (.tuple #[]) (w.setRow g ((cellsOf (pre ++ (xs ++ post))).toArray.toList.take (pre.length + 0) ++ cellsOf (List.replicate xs.length 0) ++ (cellsOf (pre ++ (xs ++ post))).toArray.toList.drop (pre.length + 0 + (cellsOf (List.replicate xs.length 0)).length)).toArray) := by
        rw [← e3] at hst ⊢
        cases hl : xs.length with
        | zero => omega
        | succ k =>
          rw [hl] at hst
          simp [Builtin.clear_, run_underlying Try.underlying27, zeroValue, typeInfo, hi, hz0]
          simp at hst
          simp [hst, Result.andThen]
      have e4 : (cellsOf (pre ++ (xs ++ post))).toArray.toList.take (pre.length + 0) ++ cellsOf (List.replicate xs.length 0) ++ (cellsOf (pre ++ (xs ++ post))).toArray.toList.drop (pre.length + 0 + (cellsOf (List.replicate xs.length 0)).length) = cellsOf (pre ++ (List.replicate xs.length 0 ++ post)) := by
        have e5 := splice_append (pre := pre) (xs := xs) (post := post) (cs := List.replicate xs.length 0) (by simp)
        unfold splice at e5
        simp only [List.length_replicate, List.drop_length, List.append_nil] at e5
        rw [← e5]
        simp
      rw [e4] at hrun0
      refine ⟨_, hrun0, ⟨setRow_heap w g _ _ _ _ hb.1, ?_⟩, ?_⟩
      · have h2 := hb.2
        have hp : Ok pre := fun x hx => h2 x (by simp [hx])
        have hq : Ok post := fun x hx => h2 x (by simp [hx])
        exact hp.append ((Ok.replicate _).append hq)
      · exact ⟨rfl, rfl, rfl, by simp [World.setRow], fun k _ he => setRow_other w g k _ (by simp at he; omega)⟩
  obtain ⟨w', hr, hb', ho'⟩ := hrun
  unfold Oper.wp
  simp [execOp, ho, resolve, invoke, builtin, hd, hr, Result.andThen]
  exact hK _ _ (h w' hb' ho')

theorem pow_split (r : Nat) (hr : r < 32) : 4294967296 = 2 ^ (32 - r) * 2 ^ r := by
  rw [← Nat.pow_add, show 32 - r + r = 32 by omega]
theorem pow_quot (r : Nat) (hr : r < 32) : 4294967296 / 2 ^ r = 2 ^ (32 - r) := by
  conv => lhs; rw [pow_split r hr]
  exact Nat.mul_div_cancel _ (Nat.two_pow_pos _)
theorem cast_pow2 (r : Nat) : ((2 : Int) ^ r) = ((2 ^ r : Nat) : Int) := by simp
theorem shl_or (x c r : Nat) (hr : r < 32) (hc : c < 2 ^ r) : bits .or .u32 ((x : Int) * 2 ^ r % 4294967296) (c : Int) = ((x * 2 ^ r % 4294967296 + c : Nat) : Int) := by
  have hp := pow_split r hr
  have h1 : 1 ≤ 2 ^ (32 - r) := Nat.two_pow_pos _
  have hle : 2 ^ r ≤ 4294967296 := by
    have := Nat.mul_le_mul_right (2 ^ r) h1; omega
  rw [show (x : Int) * 2 ^ r % 4294967296 = ((x * 2 ^ r % 4294967296 : Nat) : Int) by rw [cast_pow2]; simp, u32_or_nat _ _ (by omega) (by omega), nat_join r _ _ ?_ hc]
  rw [Nat.mod_mod_of_dvd _ ⟨2 ^ (32 - r), by rw [Nat.mul_comm]; exact hp⟩]
  exact Nat.mul_mod_left _ _
theorem shr_cast (x r : Nat) : (x : Int) / 2 ^ r = ((x / 2 ^ r : Nat) : Int) := by rw [cast_pow2]; simp

/-- One round of a shift up. -/
theorem up_step {P X Z c x p : Nat} (h : Z + c * P = p * X) (hc : c < p) (hp : 4294967296 % p = 0) (hp0 : 0 < p) (hx : x < 4294967296) :
    Z + P * (x * p % 4294967296 + c) + x / (4294967296 / p) * (P * 4294967296) = p * (X + P * x) := by
  have e1 : 4294967296 = p * (4294967296 / p) := by rw [Nat.mul_div_cancel' (Nat.dvd_of_mod_eq_zero hp)]
  have hq0 : 0 < 4294967296 / p := by
    rcases Nat.eq_zero_or_pos (4294967296 / p) with h0 | h0
    · rw [h0] at e1; omega
    · exact h0
  generalize 4294967296 / p = q at *
  have e2 : x * p % 4294967296 = p * (x % q) := by rw [e1, Nat.mul_comm x p, Nat.mul_mod_mul_left]
  have e3 := Nat.div_add_mod x q
  rw [e2]
  generalize x / q = u at *
  generalize x % q = v at *
  rw [e1]
  grind

end Go.Proofs.Ytimlpehgafjkpaa

namespace Go.Proofs.Ytimlpehgafjkpaa
open Go.RowKit
set_option linter.unusedVariables false

theorem or_down (x c r : Nat) (hr : r < 32) (hx : x < 4294967296) (hc : c < 4294967296) (hd : c % 2 ^ (32 - r) = 0) : bits .or .u32 ((x : Int) / 2 ^ r) (c : Int) = ((x / 2 ^ r + c : Nat) : Int) := by
  have hlt : x / 2 ^ r < 2 ^ (32 - r) := by
    rw [Nat.div_lt_iff_lt_mul (Nat.two_pow_pos _), ← pow_split r hr]; exact hx
  have hle : x / 2 ^ r ≤ x := Nat.div_le_self _ _
  rw [shr_cast, u32_or_nat _ _ (by omega) hc, Nat.or_comm, nat_join (32 - r) _ _ hd hlt, Nat.add_comm]

theorem shl_down (x r : Nat) (hr : r < 32) : (x : Int) * 2 ^ (32 - r) % 4294967296 = ((x % 2 ^ r * 2 ^ (32 - r) : Nat) : Int) := by
  rw [cast_pow2]
  have e : x * 2 ^ (32 - r) % 4294967296 = x % 2 ^ r * 2 ^ (32 - r) := by
    conv => lhs; rw [pow_split r hr, Nat.mul_comm (2 ^ (32 - r)) (2 ^ r)]
    rw [Nat.mul_mod_mul_right]
  rw [← e]; simp

/-- One round of a shift down. -/
theorem down_step (x V r : Nat) (hr : r < 32) : (x + 4294967296 * V) / 2 ^ r = (x / 2 ^ r + V % 2 ^ r * 2 ^ (32 - r)) + 4294967296 * (V / 2 ^ r) ∧ (x + 4294967296 * V) % 2 ^ r = x % 2 ^ r := by
  have hp := pow_split r hr
  have hp0 : 0 < 2 ^ r := Nat.two_pow_pos _
  generalize hP : 2 ^ r = p at *
  generalize 2 ^ (32 - r) = q at *
  have hV := Nat.div_add_mod V p
  have e1 : x + 4294967296 * V = x + p * (q * V) := by rw [hp]; grind
  rw [e1]
  refine ⟨?_, Nat.add_mul_mod_self_left _ _ _⟩
  rw [Nat.add_mul_div_left _ _ hp0]
  have e2 : q * V = V % p * q + 4294967296 * (V / p) := by
    rw [hp]
    generalize V / p = a at *
    generalize V % p = b at *
    rw [← hV]; grind
  omega

theorem val_div_pow (xs : List Nat) (hok : Ok xs) (h : Nat) (hh : h ≤ xs.length) : val xs / 4294967296 ^ h = val (xs.drop h) := by
  have h1 := val_split xs h hh
  have h2 := val_take_lt hok h
  rw [h1, Nat.add_mul_div_left _ _ (Nat.pow_pos (by omega)), Nat.div_eq_of_lt h2]; omega

theorem nl_shl (m k : Nat) : nl (m * 2 ^ k) ≤ nl m + k / 32 + 1 := by
  rw [nl_le_iff]
  have h1 := lt_pow_nl m
  have h2 : 2 ^ k < 4294967296 ^ (k / 32 + 1) := by
    rw [pow32]; exact Nat.pow_lt_pow_right (by omega) (by omega)
  have := Nat.mul_lt_mul'' h1 h2
  rw [Nat.add_assoc, Nat.pow_add]; exact this

end Go.Proofs.Ytimlpehgafjkpaa

namespace Go.Proofs.Ytimlpehgafjkpaa
open Go.RowKit
set_option linter.unusedVariables false

theorem or_shl (x c r : Nat) (hr : r < 32) (hc : c < 2 ^ r) : bits .or .u32 (c : Int) ((x : Int) * 2 ^ r % 4294967296) = ((x * 2 ^ r % 4294967296 + c : Nat) : Int) := by
  have hp := pow_split r hr
  have h1 : 1 ≤ 2 ^ (32 - r) := Nat.two_pow_pos _
  have hle : 2 ^ r ≤ 4294967296 := by
    have := Nat.mul_le_mul_right (2 ^ r) h1; omega
  rw [show (x : Int) * 2 ^ r % 4294967296 = ((x * 2 ^ r % 4294967296 : Nat) : Int) by rw [cast_pow2]; simp, u32_or_nat _ _ (by omega) (by omega), Nat.or_comm, nat_join r _ _ ?_ hc]
  rw [Nat.mod_mod_of_dvd _ ⟨2 ^ (32 - r), by rw [Nat.mul_comm]; exact hp⟩]
  exact Nat.mul_mod_left _ _

/-- A limb of a number that is shifted down. -/
theorem down_limb (V i r : Nat) (hr : r < 32) : V / 2 ^ r / 4294967296 ^ i % 4294967296 = (V / 4294967296 ^ i % 4294967296 + 4294967296 * (V / 4294967296 ^ (i + 1) % 4294967296)) / 2 ^ r % 4294967296 := by
  have hp := pow_split r hr
  have hp0 : 0 < 2 ^ r := Nat.two_pow_pos _
  rw [Nat.div_div_eq_div_mul, Nat.mul_comm, ← Nat.div_div_eq_div_mul, Nat.pow_succ, ← Nat.div_div_eq_div_mul]
  generalize V / 4294967296 ^ i = U
  generalize 2 ^ r = p at *
  generalize 2 ^ (32 - r) = q at *
  have e1 : U = (U % 4294967296 + 4294967296 * (U / 4294967296 % 4294967296)) + p * (4294967296 * (q * (U / 4294967296 / 4294967296))) := by
    have a1 := Nat.div_add_mod U 4294967296
    have a2 := Nat.div_add_mod (U / 4294967296) 4294967296
    have a3 : p * (4294967296 * (q * (U / 4294967296 / 4294967296))) = 4294967296 * (4294967296 * (U / 4294967296 / 4294967296)) := by
      conv => rhs; rw [hp]
      grind
    rw [a3]; omega
  conv => lhs; rw [e1]
  rw [Nat.add_mul_div_left _ _ hp0, Nat.add_mul_mod_self_left]

theorem val_mod_pow (xs : List Nat) (hok : Ok xs) (h : Nat) : val xs / 4294967296 ^ h % 4294967296 = xs.getD h 0 := by
  by_cases hh : h < xs.length
  · rw [val_div_pow xs hok h (by omega), val_drop_cons hh]
    have := hok.getD h
    omega
  · have h1 := val_lt hok
    have h2 : 4294967296 ^ xs.length ≤ 4294967296 ^ h := Nat.pow_le_pow_right (by omega) (by omega)
    rw [Nat.div_eq_of_lt (by omega), List.getD_eq_getElem?_getD, List.getElem?_eq_none (by omega)]; rfl

theorem num_limb (m h : Nat) : (lim m).getD h 0 = m / 4294967296 ^ h % 4294967296 := by
  rw [← val_mod_pow (lim m) (ok_lim m) h, val_lim]

end Go.Proofs.Ytimlpehgafjkpaa
