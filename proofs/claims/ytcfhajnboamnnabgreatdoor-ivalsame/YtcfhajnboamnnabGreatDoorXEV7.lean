/- A reader of closed calls: what is made or written is what it says, second part. -/
import Derived.Test.YtcfhajnboamnnabGreatDoorXEV6
namespace Go.Ev
open Go.RowKit
set_option linter.unusedVariables false
set_option linter.unusedSimpArgs false

section
variable {M : Dom} {ρ : Env} {w w' : World} {P : Program} {B : Nat} {S S1 : Tr (Bk)} {n : Nat}

theorem wrapU {s : Sem Unit} {w w' : World} (h : s.run P w = .ok () w') : (do s; pure .skip : Sem Next).run P w = .ok .skip w' := by
  simp [Sem.run_bind, h]

/-- A new row. -/
theorem fresh_ok (hS : SRel M B ρ w S) (hB : B ≤ w.heap.size) (hk : ∀ {b k}, S.get b = some k → b < n) (hf : Free ρ n (n + 1)) (ty : TypeId) {cs : List (AC)} {arr : Array Value} (hr : rels M ρ w cs arr.toList) :
    Tn M B ρ w S n (ρ.with n w.heap.size none) (w.alloc (.cells arr ty)) (S.put n (some ⟨ty, cs, 0, false⟩)) (n + 1) := by
  have := Tn.alloc hS hB hk hf ty cs arr.toList hr
  simpa using this

theorem makeA_ok {ev : Operand → Option (AV)} {ρa : Operand → Value} (he : EvRel M ρ w ev ρa) (hS : SRel M B ρ w S) (hB : B ≤ w.heap.size) (hk : ∀ {b k}, S.get b = some k → b < n)
    {t : TypeId} {l c : Operand} {av : AV} {dl : Dl} {n' : Nat} (h : makeA P ev n t l c = some (av, dl, n')) (hf : Free ρ n n') :
    ∃ v w' ρ', (Instr.makeSlice t (ρa l) (ρa c)).run P w = .ok v w' ∧ av.rel M ρ' w' v ∧ Tn M B ρ w S n ρ' w' (puts S dl) n' := by
  unfold makeA at h
  split at h
  · rename_i e ht
    split at h
    · rename_i i z l' c' hi hz hl hcc
      cases hc : (Nat.beq z.length i.size && Nat.ble l' c' && Nat.ble (i.bytes * c') 16777216) with
      | false => rw [hc] at h; simp at h
      | true =>
        rw [hc] at h
        simp only [cond_true, Option.some.injEq, Prod.mk.injEq] at h
        obtain ⟨rfl, rfl, rfl⟩ := h
        simp only [Bool.and_eq_true, Nat.ble_eq, beq_nat, decide_eq_true_eq] at hc
        obtain ⟨⟨c1, c2⟩, c3⟩ := hc
        obtain ⟨i', zv, hi', hzv, hzr⟩ := zeroA_ok hz
        obtain rfl : i = i' := by rw [hi] at hi'; exact Option.some.inj hi'
        have hzl := (hzr M ρ w).length
        simp only [Array.length_toList] at hzl
        obtain ⟨kl, hl', _, hl2⟩ := natOf_ok he hl
        obtain ⟨kc, hc', _, hc2⟩ := natOf_ok he hcc
        have hb : (i.bytes : Int) * (c' : Int) ≤ 281474976710656 := by
          have : ((i.bytes * c' : Nat) : Int) ≤ 281474976710656 := by omega
          rwa [Int.natCast_mul] at this
        have hrun := run_make (P := P) w t e i zv ht hi hzv kl kc (l' : Int) (c' : Int) (by omega) (by omega) hb (by omega)
        simp only [Int.toNat_natCast] at hrun
        refine ⟨_, _, ρ.with n w.heap.size none, by rw [hl', hc']; exact hrun, ?_, ?_⟩
        · exact ⟨w.heap.size, c', by simp [Env.with], rfl, c2, by unfold maxLen; omega, rfl⟩
        · refine fresh_ok hS hB hk hf e ?_
          have := made_rel (hzr M ρ w) c'
          rwa [show zv.cells.size = i.size by omega] at this
    · cases h
  · cases h

theorem litSliceA_ok {ev : Operand → Option (AV)} {ρa : Operand → Value} (he : EvRel M ρ w ev ρa) (hS : SRel M B ρ w S) (hB : B ≤ w.heap.size) (hk : ∀ {b k}, S.get b = some k → b < n)
    {t : TypeId} {len : Nat} {parts : Array (Nat × Operand)} {av : AV} {dl : Dl} {n' : Nat} (h : litSliceA P ev n t len parts.toList = some (av, dl, n')) (hf : Free ρ n n') :
    ∃ v w' ρ', (Instr.buildSlice t len (parts.map fun (i, x) => (i, ρa x))).run P w = .ok v w' ∧ av.rel M ρ' w' v ∧ Tn M B ρ w S n ρ' w' (puts S dl) n' := by
  unfold litSliceA at h
  split at h
  · rename_i e ht
    split at h
    · rename_i i z ps hi hz hps
      cases hc : (Nat.beq z.length i.size && Nat.ble (len * i.size) 16777216 && Nat.ble len 16777216) with
      | false => rw [hc] at h; simp at h
      | true =>
        rw [hc] at h
        simp only [cond_true] at h
        simp only [Bool.and_eq_true, Nat.ble_eq, beq_nat, decide_eq_true_eq] at hc
        split at h
        · rename_i cs hcs
          simp only [Option.some.injEq, Prod.mk.injEq] at h
          obtain ⟨rfl, rfl, rfl⟩ := h
          obtain ⟨i', zv, hi', hzv, hzr⟩ := zeroA_ok hz
          obtain rfl : i = i' := by rw [hi] at hi'; exact Option.some.inj hi'
          have hzl := (hzr M ρ w).length
          simp only [Array.length_toList] at hzl
          obtain ⟨h1, h2⟩ := partsA_ok he hps
          have hmr : rels M ρ w (rowA z len) ((Array.range (len * i.size)).map (zv.cells[· % zv.cells.size]!)).toList := by
            have := made_rel (hzr M ρ w) len
            rwa [show zv.cells.size = i.size by omega] at this
          obtain ⟨arr, ha, hr⟩ := fill_rel ps _ _ _ cs h1 h2 hmr hcs
          have ha' : Instr.fill (fun j => some (j * i.size, i.size)) ((Array.range (len * i.size)).map (zv.cells[· % zv.cells.size]!)) (parts.map fun (i, x) => (i, ρa x)).toList = some arr := by simpa using ha
          have hrun : (Instr.buildSlice t len (parts.map fun (i, x) => (i, ρa x))).run P w = .ok (.slice (some ⟨w.heap.size, 0, none⟩) len len) (w.alloc (.cells arr e)) := by
            by_cases h0 : len * i.size = 0
            · have e0 : ((Array.range (len * i.size)).map ((#[] : Array Value)[· % (#[] : Array Value).size]!)) = ((Array.range (len * i.size)).map (zv.cells[· % zv.cells.size]!)) := by
                rw [h0]; simp
              simp only [Instr.buildSlice, Sem.run_bind, run_underlying ht, Result.andThen_ok, sizeOf_run hi]
              rw [if_neg (by omega)]
              simp only [Sem.run_bind, Sem.run_pure, Result.andThen_ok, h0, if_true]
              rw [h0] at e0 ha'
              simp only [e0, ha']
              simp [newRow]
            · exact run_buildSlice w t e len _ arr i zv ht hi hzv (by omega) h0 ha'
          refine ⟨_, _, ρ.with n w.heap.size none, hrun, ?_, fresh_ok hS hB hk hf e hr⟩
          exact ⟨w.heap.size, len, by simp [Env.with], rfl, Nat.le_refl _, by unfold maxLen; omega, rfl⟩
        · cases h
    · cases h
  · cases h

theorem copyA_ok {ev : Operand → Option (AV)} {ρa : Operand → Value} (he : EvRel M ρ w ev ρa) (hS : SRel M B ρ w S) (hk : ∀ {b k}, S.get b = some k → b < n) (ty : TypeId) {t t' : TypeId} {d s : Operand}
    {av : AV} {dl : Dl} {n' : Nat} (h : copyA P M.strict ev S n t d s = some (av, dl, n')) :
    ∃ v w', (Builtin.copy_ #[t, t'] ty #[ρa d, ρa s]).run P w = .ok v w' ∧ av.rel M ρ w' v ∧ Tn M B ρ w S n ρ w' (puts S dl) n' := by
  unfold copyA at h
  split at h
  · rename_i e hte
    split at h
    · rename_i i hi
      cases hc : Nat.beq i.size 1 with
      | false => rw [hc] at h; cases h
      | true =>
        rw [hc] at h
        simp only [cond_true] at h
        have hs1 : (P.info? e).map (·.size) = some 1 := by rw [hi]; simp [Nat.eq_of_beq_eq_true hc]
        split at h
        · rename_i b off dl0 c b2 off2 sl c2 hd hs
          obtain ⟨p, kd, hp, hud, _⟩ := he _ _ hd
          obtain ⟨p2, ks, hp2, hus, _⟩ := he _ _ hs
          split at h
          · rename_i k cs hk' hcs
            cases hok : (Nat.ble (off + cs.length) k.cells.length && loose1 M.strict ((k.cells.drop off).take cs.length)) with
            | false => rw [hok] at h; simp at h
            | true =>
              rw [hok] at h
              simp only [cond_true, Option.some.injEq, Prod.mk.injEq] at h
              obtain ⟨rfl, rfl, rfl⟩ := h
              simp only [Bool.and_eq_true, Nat.ble_eq] at hok
              obtain ⟨q, us, hq, hr, hul, hat⟩ := rangeA_ok hS hcs
              obtain rfl : p2 = q := Option.some.inj (hp2.symm.trans hq)
              obtain ⟨p', arr, hp', _, ha, _, hle⟩ := hS.read hk'
              obtain rfl : p = p' := Option.some.inj (hp.symm.trans hp')
              have hcl := hr.length
              have hmin : us.length = Nat.min sl dl0 := by
                rw [hul]
                cases hb : Nat.ble sl dl0 with
                | true => have := Nat.le_of_ble_eq_true hb; simp only [cond_true]; exact (Nat.min_eq_left this).symm
                | false =>
                  have : ¬ sl ≤ dl0 := fun hh => by have h9 : Nat.ble sl dl0 = true := by rw [Nat.ble_eq]; exact hh
                                                    rw [hb] at h9; cases h9
                  simp only [cond_false]; exact (Nat.min_eq_right (by omega)).symm
              have hrun := run_copy_row (P := P) w t t' ty e p off dl0 kd ⟨p2, off2, none⟩ sl ks arr k.ty us hte hs1 ha hmin (fun j v hv => by rw [Addr.add_mid]; exact hat j v hv) (by omega) (fun v hv => hr.oneCell v hv)
              rw [hud, hus]
              refine ⟨_, _, hrun, ?_, Tn.set hS hk hk' hp ha hr hok.1 hok.2⟩
              rw [hcl]
              exact ⟨rfl, rfl⟩
          · cases h
        · rename_i b off dl0 c hd hs
          simp only [Option.some.injEq, Prod.mk.injEq] at h
          obtain ⟨rfl, rfl, rfl⟩ := h
          obtain ⟨p, kd, hp, hud, _⟩ := he _ _ hd
          obtain ⟨hus, _⟩ := he _ _ hs
          rw [hud, hus]
          exact ⟨_, _, run_copy_none (P := P) w t t' ty e _ _ _ _ _ _ hte hs1 (by simp), ⟨rfl, rfl⟩, Tn.refl hS _ hk⟩
        · rename_i b2 off2 sl c hd hs
          simp only [Option.some.injEq, Prod.mk.injEq] at h
          obtain ⟨rfl, rfl, rfl⟩ := h
          obtain ⟨p, kd, hp, hus, _⟩ := he _ _ hs
          obtain ⟨hud, _⟩ := he _ _ hd
          rw [hud, hus]
          exact ⟨_, _, run_copy_none (P := P) w t t' ty e _ _ _ _ _ _ hte hs1 (by simp), ⟨rfl, rfl⟩, Tn.refl hS _ hk⟩
        · rename_i hd hs
          simp only [Option.some.injEq, Prod.mk.injEq] at h
          obtain ⟨rfl, rfl, rfl⟩ := h
          obtain ⟨hus, _⟩ := he _ _ hs
          obtain ⟨hud, _⟩ := he _ _ hd
          rw [hud, hus]
          exact ⟨_, _, run_copy_none (P := P) w t t' ty e _ _ _ _ _ _ hte hs1 (by simp), ⟨rfl, rfl⟩, Tn.refl hS _ hk⟩
        · cases h
    · cases h
  · cases h

theorem clear_run {w : World} {t e ty : TypeId} {z : Value} (ht : P.underlying t = some (.slice e)) (hv : ∀ w, (zeroValue e).run P w = .ok z w) (hz : z.cells = #[z]) (h1 : z.oneCell' = true) {p off m c : Nat} {arr : Array Value} {tt : TypeId} (hm : 0 < m)
    (ha : w.heap[p]? = some (.cells arr tt (0, 0))) (hfit : off + m ≤ arr.size) :
    (Builtin.clear_ #[t] ty #[.slice (some ⟨p, off, none⟩) m c]).run P w = .ok (.tuple #[]) (w.setRow p (spl arr.toList off (List.replicate m z)).toArray) := by
  have hzc : (Builtin.zeroCells z.cells m).toList = List.replicate m z := by
    rw [hz]
    simp [Builtin.zeroCells]
    apply List.ext_getElem
    · simp
    · intro i h1 h2
      simp [Nat.mod_one]
  have hst := run_storeCells_at P p off tt (List.replicate m z) 0 arr w ha (by simpa using hfit) (by intro v hv'; rw [List.eq_of_mem_replicate hv']; exact h1)
  simp only [Nat.add_zero] at hst
  obtain ⟨m', rfl⟩ : ∃ m', m = m' + 1 := ⟨m - 1, by omega⟩
  simp [Builtin.clear_, run_underlying ht, hv, hzc, hst, spl]

theorem clear_run0 {w : World} {t e ty : TypeId} {z : Value} (ht : P.underlying t = some (.slice e)) (hv : ∀ w, (zeroValue e).run P w = .ok z w) (hz : z.cells = #[z]) (a : Option Addr) (c : Nat) :
    (Builtin.clear_ #[t] ty #[.slice a 0 c]).run P w = .ok (.tuple #[]) w := by
  cases a <;> simp [Builtin.clear_, run_underlying ht, hv, hz, Builtin.zeroCells, storeCells]

theorem rels_replicate {c : AC} {u : Value} (h : c.rel M ρ w u) : ∀ m, rels M ρ w (List.replicate m c) (List.replicate m u)
  | 0 => trivial
  | m + 1 => ⟨h, rels_replicate h m⟩

theorem clearA_ok {ev : Operand → Option (AV)} {ρa : Operand → Value} (he : EvRel M ρ w ev ρa) (hS : SRel M B ρ w S) (hk : ∀ {b k}, S.get b = some k → b < n) (ty : TypeId) {t : TypeId} {x : Operand}
    {av : AV} {dl : Dl} {n' : Nat} (h : clearA P M.strict ev S n t x = some (av, dl, n')) :
    ∃ v w', (Builtin.clear_ #[t] ty #[ρa x]).run P w = .ok v w' ∧ av.rel M ρ w' v ∧ Tn M B ρ w S n ρ w' (puts S dl) n' := by
  unfold clearA at h
  split at h
  · rename_i e hte
    split at h
    · rename_i i hi
      split at h
      · rename_i z hzz
        cases hz1 : z.oneCell' with
        | false => rw [hz1] at h; cases h
        | true =>
          rw [hz1] at h
          simp only [cond_true] at h
          have hv : ∀ w, (zeroValue e).run P w = .ok z w := fun w => by simp [zeroValue, typeInfo, hi, hzz]
          have hzc : z.cells = #[z] := by cases z <;> first | rfl | (simp [Value.oneCell'] at hz1)
          split at h
          · rename_i b off len c hx
            obtain ⟨p, kd, hp, hux, _⟩ := he _ _ hx
            rw [hux]
            split at h
            · rename_i k hk'
              cases hl : Nat.ble 1 len with
              | false =>
                rw [hl] at h
                simp only [cond_false, Option.some.injEq, Prod.mk.injEq] at h
                obtain ⟨rfl, rfl, rfl⟩ := h
                have h0 : len = 0 := by
                  rcases Nat.eq_zero_or_pos len with h0 | h0
                  · exact h0
                  · have h9 : Nat.ble 1 len = true := by rw [Nat.ble_eq]; exact h0
                    rw [hl] at h9; cases h9
                subst h0
                exact ⟨_, _, clear_run0 hte hv hzc _ _, ⟨[], rfl, trivial⟩, Tn.refl hS _ hk⟩
              | true =>
                rw [hl] at h
                simp only [cond_true] at h
                cases hok : (Nat.ble (off + len) k.cells.length && loose1 M.strict ((k.cells.drop off).take len)) with
                | false => rw [hok] at h; simp at h
                | true =>
                  rw [hok] at h
                  simp only [cond_true, Option.some.injEq, Prod.mk.injEq] at h
                  obtain ⟨rfl, rfl, rfl⟩ := h
                  simp only [Bool.and_eq_true, Nat.ble_eq] at hok
                  obtain ⟨p', arr, hp', _, ha, _, hle⟩ := hS.read hk'
                  obtain rfl : p = p' := Option.some.inj (hp.symm.trans hp')
                  exact ⟨_, _, clear_run hte hv hzc hz1 (Nat.le_of_ble_eq_true hl) ha (by omega), ⟨[], rfl, trivial⟩,
                    Tn.set hS hk hk' hp ha (rels_replicate (c := .lit z) ⟨rfl, hz1⟩ len) (by simpa using hok.1) (by simpa using hok.2)⟩
            · cases h
          · cases h
      · cases h
    · cases h
  · cases h

theorem writeOp_ok {ev : Operand → Option (AV)} {ρa : Operand → Value} {o : Oper} (he : EvRel M ρ w ev ρa) (hS : SRel M B ρ w S) (hB : B ≤ w.heap.size) (hk : ∀ {b k}, S.get b = some k → b < n)
    {av : AV} {dl : Dl} {n' : Nat} (h : writeOp P M.strict ev S n o = some (av, dl, n')) (hf : Free ρ n n') :
    ∃ x v w' ρ', (execOp ρa o).run P w = .ok x w' ∧ NextIs x v ∧ av.rel M ρ' w' v ∧ Tn M B ρ w S n ρ' w' (puts S dl) n' := by
  obtain ⟨dst, op, type, pos, after, guard⟩ := o
  unfold writeOp at h
  split at h
  · rename_i ty hop
    simp only at hop; subst hop
    simp only [Option.map_eq_some_iff, Prod.mk.injEq] at h
    obtain ⟨cs, hcs, rfl, rfl, rfl⟩ := h
    obtain ⟨i, z, hi, hz, hr⟩ := zeroA_ok hcs
    refine ⟨_, .pointer (some ⟨w.heap.size, 0, none⟩), w.alloc (.cells z.cells ty), ρ.with n w.heap.size none, ?_, .inl rfl, ?_, fresh_ok hS hB hk hf ty (hr M ρ w)⟩
    · simp only [execOp]
      refine wrapV ?_
      simp [Instr.alloc, zeroValue, typeInfo, hi, hz, newVar, newRow]
    · exact ⟨w.heap.size, by simp [Env.with], rfl⟩
  · rename_i ty x hop
    simp only at hop; subst hop
    split at h
    · rename_i y hx
      simp only [Option.some.injEq, Prod.mk.injEq] at h
      obtain ⟨rfl, rfl, rfl⟩ := h
      have hr := (he _ _ hx : y.rel M ρ w (ρa x)).cells
      refine ⟨_, .pointer (some ⟨w.heap.size, 0, none⟩), w.alloc (.cells (ρa x).cells ty), ρ.with n w.heap.size none, ?_, .inl rfl, ?_, fresh_ok hS hB hk hf ty hr⟩
      · simp only [execOp]
        refine wrapV ?_
        simp [Instr.box, newVar, newRow]
      · exact ⟨w.heap.size, by simp [Env.with], rfl⟩
    · cases h
  · rename_i t len parts hop
    simp only at hop; subst hop
    obtain ⟨v, w', ρ', h1, h2, h3⟩ := litSliceA_ok he hS hB hk h hf
    exact ⟨_, v, w', ρ', wrapV h1, .inl rfl, h2, h3⟩
  · rename_i t l c hop
    simp only at hop; subst hop
    obtain ⟨v, w', ρ', h1, h2, h3⟩ := makeA_ok he hS hB hk h hf
    exact ⟨_, v, w', ρ', wrapV h1, .inl rfl, h2, h3⟩
  · rename_i ty x y hop
    simp only at hop; subst hop
    split at h
    · rename_i b off y' hx hy
      obtain ⟨p, hp, w', hrun, rfl, hT⟩ := storeA_ok (P := P) hS hk (he _ _ hy : y'.rel M ρ w (ρa y)) h
      obtain ⟨p', hp', hx'⟩ := he _ _ hx
      obtain rfl : p = p' := Option.some.inj (hp.symm.trans hp')
      refine ⟨.skip, undef, w', ρ, ?_, .inr ⟨rfl, rfl⟩, ⟨[], rfl, trivial⟩, hT⟩
      simp only [execOp, hx', Instr.storeAt, Instr.sureAddr]
      exact wrapU hrun
    · cases h
  · rename_i c hop
    simp only at hop; subst hop
    split at h
    · rename_i s x t t' hc ha ht
      cases htt : Nat.beq t t' with
      | false => rw [htt] at h; simp at h
      | true =>
        rw [htt] at h
        simp only [cond_true] at h
        obtain rfl := Nat.eq_of_beq_eq_true htt
        obtain ⟨callee, args, argTypes⟩ := c
        simp only at hc ha ht
        subst hc
        obtain rfl : args = #[s, x] := by cases args; simp at ha; simp [ha]
        obtain rfl : argTypes = #[t, t] := by cases argTypes; simp at ht; simp [ht]
        obtain ⟨v, w', ρ', h1, h2, h3⟩ := appendA_ok he hS hB hk type h hf
        refine ⟨_, v, w', ρ', ?_, .inl rfl, h2, h3⟩
        simp only [execOp, resolve, Sem.run_bind, Sem.run_pure, Result.andThen_ok, invoke, builtin]
        simp [h1]
    · rename_i d s t t' hc ha ht
      obtain ⟨callee, args, argTypes⟩ := c
      simp only at hc ha ht
      subst hc
      obtain rfl : args = #[d, s] := by cases args; simp at ha; simp [ha]
      obtain rfl : argTypes = #[t, t'] := by cases argTypes; simp at ht; simp [ht]
      obtain ⟨v, w', h1, h2, h3⟩ := copyA_ok (P := P) (t' := t') he hS hk type h
      refine ⟨_, v, w', ρ, ?_, .inl rfl, h2, h3⟩
      simp only [execOp, resolve, Sem.run_bind, Sem.run_pure, Result.andThen_ok, invoke, builtin]
      simp [h1]
    · rename_i x t hc ha ht
      obtain ⟨callee, args, argTypes⟩ := c
      simp only at hc ha ht
      subst hc
      obtain rfl : args = #[x] := by cases args; simp at ha; simp [ha]
      obtain rfl : argTypes = #[t] := by cases argTypes; simp at ht; simp [ht]
      obtain ⟨v, w', h1, h2, h3⟩ := clearA_ok (P := P) he hS hk type h
      refine ⟨_, v, w', ρ, ?_, .inl rfl, h2, h3⟩
      simp only [execOp, resolve, Sem.run_bind, Sem.run_pure, Result.andThen_ok, invoke, builtin]
      simp [h1]
    · cases h
  · cases h
end
end Go.Ev
