/- A reader of closed calls: what is made or written is what it says, second part. -/
import Derived.Test.YtcgigpnejeabmaaDoorEV6
namespace Go.Ev
open Go.RowKit
set_option linter.unusedVariables false
set_option linter.unusedSimpArgs false

section
variable {M : Dom} {ρ : Env} {w w' : World} {P : Program} {B : Nat} {S S1 : Tr (Bk)} {n : Nat}

theorem wrapU {s : Sem Unit} {w w' : World} (h : s.run P w = .ok () w') : (do s; pure .skip : Sem Next).run P w = .ok .skip w' := by
  simp [Sem.run_bind, h]

/-- A new row. -/
theorem fresh_ok (hS : SRel M B ρ w S) (hB : B ≤ w.heap.size) (hk : ∀ {b k}, S.get b = some k → b < n) (hf : Free ρ n (n + 1)) (ty : TypeId) {cs : List (AC)} {arr : Array Value} (hr : rels M ρ w cs arr.toList) :
    Tn M B ρ w S n (ρ.with n w.heap.size none) (w.alloc (.cells arr ty)) (S.put n (some ⟨ty, cs, 0, false⟩)) (n + 1) := by
  have := Tn.alloc hS hB hk hf ty cs arr.toList hr
  simpa using this

theorem makeA_ok {ev : Operand → Option (AV)} {ρa : Operand → Value} (he : EvRel M ρ w ev ρa) (hS : SRel M B ρ w S) (hB : B ≤ w.heap.size) (hk : ∀ {b k}, S.get b = some k → b < n)
    {t : TypeId} {l c : Operand} {av : AV} {dl : Dl} {n' : Nat} (h : makeA P ev n t l c = some (av, dl, n')) (hf : Free ρ n n') :
    ∃ v w' ρ', (Instr.makeSlice t (ρa l) (ρa c)).run P w = .ok v w' ∧ av.rel M ρ' w' v ∧ Tn M B ρ w S n ρ' w' (puts S dl) n' := by
  unfold makeA at h
  split at h
  · rename_i e ht
    split at h
    · rename_i i z l' c' hi hz hl hcc
      cases hc : (Nat.beq z.length i.size && Nat.ble l' c' && Nat.ble (i.bytes * c') 16777216) with
      | false => rw [hc] at h; simp at h
      | true =>
        rw [hc] at h
        simp only [cond_true, Option.some.injEq, Prod.mk.injEq] at h
        obtain ⟨rfl, rfl, rfl⟩ := h
        simp only [Bool.and_eq_true, Nat.ble_eq, beq_nat, decide_eq_true_eq] at hc
        obtain ⟨⟨c1, c2⟩, c3⟩ := hc
        obtain ⟨i', zv, hi', hzv, hzr⟩ := zeroA_ok hz
        obtain rfl : i = i' := by rw [hi] at hi'; exact Option.some.inj hi'
        have hzl := (hzr M ρ w).length
        simp only [Array.length_toList] at hzl
        obtain ⟨kl, hl', _, hl2⟩ := natOf_ok he hl
        obtain ⟨kc, hc', _, hc2⟩ := natOf_ok he hcc
        have hb : (i.bytes : Int) * (c' : Int) ≤ 281474976710656 := by
          have : ((i.bytes * c' : Nat) : Int) ≤ 281474976710656 := by omega
          rwa [Int.natCast_mul] at this
        have hrun := run_make (P := P) w t e i zv ht hi hzv kl kc (l' : Int) (c' : Int) (by omega) (by omega) hb (by omega)
        simp only [Int.toNat_natCast] at hrun
        refine ⟨_, _, ρ.with n w.heap.size none, by rw [hl', hc']; exact hrun, ?_, ?_⟩
        · exact ⟨w.heap.size, c', by simp [Env.with], rfl, c2, by unfold maxLen; omega, rfl⟩
        · refine fresh_ok hS hB hk hf e ?_
          have := made_rel (hzr M ρ w) c'
          rwa [show zv.cells.size = i.size by omega] at this
    · cases h
  · cases h

theorem litSliceA_ok {ev : Operand → Option (AV)} {ρa : Operand → Value} (he : EvRel M ρ w ev ρa) (hS : SRel M B ρ w S) (hB : B ≤ w.heap.size) (hk : ∀ {b k}, S.get b = some k → b < n)
    {t : TypeId} {len : Nat} {parts : Array (Nat × Operand)} {av : AV} {dl : Dl} {n' : Nat} (h : litSliceA P ev n t len parts.toList = some (av, dl, n')) (hf : Free ρ n n') :
    ∃ v w' ρ', (Instr.buildSlice t len (parts.map fun (i, x) => (i, ρa x))).run P w = .ok v w' ∧ av.rel M ρ' w' v ∧ Tn M B ρ w S n ρ' w' (puts S dl) n' := by
  unfold litSliceA at h
  split at h
  · rename_i e ht
    split at h
    · rename_i i z ps hi hz hps
      cases hc : (Nat.beq z.length i.size && Nat.ble (len * i.size) 16777216 && Nat.ble len 16777216) with
      | false => rw [hc] at h; simp at h
      | true =>
        rw [hc] at h
        simp only [cond_true] at h
        simp only [Bool.and_eq_true, Nat.ble_eq, beq_nat, decide_eq_true_eq] at hc
        split at h
        · rename_i cs hcs
          simp only [Option.some.injEq, Prod.mk.injEq] at h
          obtain ⟨rfl, rfl, rfl⟩ := h
          obtain ⟨i', zv, hi', hzv, hzr⟩ := zeroA_ok hz
          obtain rfl : i = i' := by rw [hi] at hi'; exact Option.some.inj hi'
          have hzl := (hzr M ρ w).length
          simp only [Array.length_toList] at hzl
          obtain ⟨h1, h2⟩ := partsA_ok he hps
          have hmr : rels M ρ w (rowA z len) ((Array.range (len * i.size)).map (zv.cells[· % zv.cells.size]!)).toList := by
            have := made_rel (hzr M ρ w) len
            rwa [show zv.cells.size = i.size by omega] at this
          obtain ⟨arr, ha, hr⟩ := fill_rel ps _ _ _ cs h1 h2 hmr hcs
          have ha' : Instr.fill (fun j => some (j * i.size, i.size)) ((Array.range (len * i.size)).map (zv.cells[· % zv.cells.size]!)) (parts.map fun (i, x) => (i, ρa x)).toList = some arr := by simpa using ha
          have hrun : (Instr.buildSlice t len (parts.map fun (i, x) => (i, ρa x))).run P w = .ok (.slice (some ⟨w.heap.size, 0, none⟩) len len) (w.alloc (.cells arr e)) := by
            by_cases h0 : len * i.size = 0
            · have e0 : ((Array.range (len * i.size)).map ((#[] : Array Value)[· % (#[] : Array Value).size]!)) = ((Array.range (len * i.size)).map (zv.cells[· % zv.cells.size]!)) := by
                rw [h0]; simp
              simp only [Instr.buildSlice, Sem.run_bind, run_underlying ht, Result.andThen_ok, sizeOf_run hi]
              rw [if_neg (by omega)]
              simp only [Sem.run_bind, Sem.run_pure, Result.andThen_ok, h0, if_true]
              rw [h0] at e0 ha'
              simp only [e0, ha']
              simp [newRow]
            · exact run_buildSlice w t e len _ arr i zv ht hi hzv (by omega) h0 ha'
          refine ⟨_, _, ρ.with n w.heap.size none, hrun, ?_, fresh_ok hS hB hk hf e hr⟩
          exact ⟨w.heap.size, len, by simp [Env.with], rfl, Nat.le_refl _, by unfold maxLen; omega, rfl⟩
        · cases h
    · cases h
  · cases h

theorem writeOp_ok {ev : Operand → Option (AV)} {ρa : Operand → Value} {o : Oper} (he : EvRel M ρ w ev ρa) (hS : SRel M B ρ w S) (hB : B ≤ w.heap.size) (hk : ∀ {b k}, S.get b = some k → b < n)
    {av : AV} {dl : Dl} {n' : Nat} (h : writeOp P M.strict ev S n o = some (av, dl, n')) (hf : Free ρ n n') :
    ∃ x v w' ρ', (execOp ρa o).run P w = .ok x w' ∧ NextIs x v ∧ av.rel M ρ' w' v ∧ Tn M B ρ w S n ρ' w' (puts S dl) n' := by
  obtain ⟨dst, op, type, pos, after, guard⟩ := o
  unfold writeOp at h
  split at h
  · rename_i ty hop
    simp only at hop; subst hop
    simp only [Option.map_eq_some_iff, Prod.mk.injEq] at h
    obtain ⟨cs, hcs, rfl, rfl, rfl⟩ := h
    obtain ⟨i, z, hi, hz, hr⟩ := zeroA_ok hcs
    refine ⟨_, .pointer (some ⟨w.heap.size, 0, none⟩), w.alloc (.cells z.cells ty), ρ.with n w.heap.size none, ?_, .inl rfl, ?_, fresh_ok hS hB hk hf ty (hr M ρ w)⟩
    · simp only [execOp]
      refine wrapV ?_
      simp [Instr.alloc, zeroValue, typeInfo, hi, hz, newVar, newRow]
    · exact ⟨w.heap.size, by simp [Env.with], rfl⟩
  · rename_i ty x hop
    simp only at hop; subst hop
    split at h
    · rename_i y hx
      simp only [Option.some.injEq, Prod.mk.injEq] at h
      obtain ⟨rfl, rfl, rfl⟩ := h
      have hr := (he _ _ hx : y.rel M ρ w (ρa x)).cells
      refine ⟨_, .pointer (some ⟨w.heap.size, 0, none⟩), w.alloc (.cells (ρa x).cells ty), ρ.with n w.heap.size none, ?_, .inl rfl, ?_, fresh_ok hS hB hk hf ty hr⟩
      · simp only [execOp]
        refine wrapV ?_
        simp [Instr.box, newVar, newRow]
      · exact ⟨w.heap.size, by simp [Env.with], rfl⟩
    · cases h
  · rename_i t len parts hop
    simp only at hop; subst hop
    obtain ⟨v, w', ρ', h1, h2, h3⟩ := litSliceA_ok he hS hB hk h hf
    exact ⟨_, v, w', ρ', wrapV h1, .inl rfl, h2, h3⟩
  · rename_i t l c hop
    simp only at hop; subst hop
    obtain ⟨v, w', ρ', h1, h2, h3⟩ := makeA_ok he hS hB hk h hf
    exact ⟨_, v, w', ρ', wrapV h1, .inl rfl, h2, h3⟩
  · rename_i ty x y hop
    simp only at hop; subst hop
    split at h
    · rename_i b off y' hx hy
      obtain ⟨p, hp, w', hrun, rfl, hT⟩ := storeA_ok (P := P) hS hk (he _ _ hy : y'.rel M ρ w (ρa y)) h
      obtain ⟨p', hp', hx'⟩ := he _ _ hx
      obtain rfl : p = p' := Option.some.inj (hp.symm.trans hp')
      refine ⟨.skip, undef, w', ρ, ?_, .inr ⟨rfl, rfl⟩, ⟨[], rfl, trivial⟩, hT⟩
      simp only [execOp, hx', Instr.storeAt, Instr.sureAddr]
      exact wrapU hrun
    · cases h
  · rename_i c hop
    simp only at hop; subst hop
    split at h
    · rename_i s x t t' hc ha ht
      cases htt : Nat.beq t t' with
      | false => rw [htt] at h; simp at h
      | true =>
        rw [htt] at h
        simp only [cond_true] at h
        obtain rfl := Nat.eq_of_beq_eq_true htt
        obtain ⟨callee, args, argTypes⟩ := c
        simp only at hc ha ht
        subst hc
        obtain rfl : args = #[s, x] := by cases args; simp at ha; simp [ha]
        obtain rfl : argTypes = #[t, t] := by cases argTypes; simp at ht; simp [ht]
        obtain ⟨v, w', ρ', h1, h2, h3⟩ := appendA_ok he hS hB hk type h hf
        refine ⟨_, v, w', ρ', ?_, .inl rfl, h2, h3⟩
        simp only [execOp, resolve, Sem.run_bind, Sem.run_pure, Result.andThen_ok, invoke, builtin]
        simp [h1]
    · cases h
  · cases h
end
end Go.Ev
