/- A reader of closed calls: a region that draws its order is what was reckoned of it, in every order. -/
import Derived.Test.YtcfhajnboamnnabGreatDoorYXEV12
namespace Go.Ev
open Go.RowKit
set_option linter.unusedVariables false
set_option linter.unusedSimpArgs false

section
variable {M : Dom} {B : Nat} {P : Program} {ρ ρ' : Env} {w w' : World} {n n' : Nat} {S S' U U' : Tr Bk}

/-- What was reckoned upon a part of memory, of the whole of it. -/
structure Frame (U S U' S' : Tr Bk) : Prop where
  sub : ∀ {b k}, U.get b = some k → S.get b = some k
  whence : ∀ {b k}, S'.get b = some k → U'.get b = some k ∨ (S.get b = some k ∧ U.get b = none)

theorem Frame.src (F : Frame U S U' S') (hS : SRel M B ρ w S) (h : Tn M B ρ w U n ρ' w' U' n') (up : ρ.le ρ') {b p : Nat} {k : Bk} (hb : S'.get b = some k) (hp : ρ'.loc b = some p) :
    w.heap.size ≤ p ∨ ∃ b0 k0, S.get b0 = some k0 ∧ ρ.loc b0 = some p := by
  rcases F.whence hb with h1 | ⟨h1, h2⟩
  · rcases h.src h1 hp with hh | ⟨b0, k0, h3, h4⟩
    · exact .inl hh
    · exact .inr ⟨b0, k0, F.sub h3, h4⟩
  · obtain ⟨p', hp', _⟩ := hS.at' h1
    obtain rfl := Option.some.inj ((up.loc hp').symm.trans hp)
    exact .inr ⟨b, k, h1, hp'⟩

theorem Frame.rel (F : Frame U S U' S') (hS : SRel M B ρ w S) (h : Tn M B ρ w U n ρ' w' U' n') (up : ρ.le ρ') : SRel M B ρ' w' S' := by
  have cross : ∀ {b b' p : Nat} {k k' : Bk}, U'.get b = some k → S.get b' = some k' → U.get b' = none → ρ'.loc b = some p → ρ'.loc b' = some p → False := by
    intro b b' p k k' h1 h2 h3 hp hp'
    obtain ⟨q, hq, _, hr⟩ := hS.at' h2
    obtain rfl := Option.some.inj ((up.loc hq).symm.trans hp')
    rcases h.src h1 hp with hh | ⟨b0, k0, h4, h5⟩
    · have := hr.lt; omega
    · have e := hS.inj (F.sub h4) h2 h5 hq
      subst e; rw [h3] at h4; cases h4
  refine ⟨fun {b k} hb => ?_, fun {b b' k k' p} hb hb' hp hp' => ?_, hS.low h.fr.kept.size fun p hp hB => h.fr.far p hp fun b k hb hl => ?_⟩
  · rcases F.whence hb with h1 | ⟨h1, h2⟩
    · exact h.rel.at' h1
    · obtain ⟨p, hp, hB, hr⟩ := hS.at' h1
      refine ⟨p, up.loc hp, hB, hr.mono up h.fr.kept (h.fr.far p hr.lt fun b' k' h3 h4 => ?_)⟩
      have e := hS.inj (F.sub h3) h1 h4 hp
      subst e; rw [h2] at h3; cases h3
  · rcases F.whence hb with h1 | ⟨h1, h2⟩ <;> rcases F.whence hb' with h3 | ⟨h3, h4⟩
    · exact h.rel.inj h1 h3 hp hp'
    · exact (cross h1 h3 h4 hp hp').elim
    · exact (cross h3 h1 h2 hp' hp).elim
    · obtain ⟨q, hq, _, _⟩ := hS.at' h1
      obtain ⟨q', hq', _, _⟩ := hS.at' h3
      obtain rfl := Option.some.inj ((up.loc hq).symm.trans hp)
      obtain rfl := Option.some.inj ((up.loc hq').symm.trans hp')
      exact hS.inj h1 h3 hq hq'
  · obtain ⟨q, hq, hBq, _⟩ := hS.at' (F.sub hb)
    obtain rfl := Option.some.inj (hq.symm.trans hl)
    omega

theorem Frame.fr (F : Frame U S U' S') (h : Tn M B ρ w U n ρ' w' U' n') : Fr M ρ S w w' :=
  ⟨h.fr.os, h.fr.tape, h.fr.output, fun p hp hn => h.fr.far p hp fun b k hb hl => hn b k (F.sub hb) hl, h.fr.kept⟩
end

theorem dstsOf_mem {ops : Array Oper} {i d : Nat} {o : Oper} (ho : ops[i]? = some o) (hd : o.dst = some d) : (d, i) ∈ dstsOf ops.toList := by
  unfold dstsOf
  rw [List.mem_filterMap]
  refine ⟨(o, i), ?_, by simp [hd]⟩
  rw [List.mem_zipIdx_iff_getElem?]
  simpa using ho

theorem badT_ok {all : Array Oper} {dsts : List (Nat × Nat)} {j m t i : Nat} (h : badT all dsts j m t = false) (hm : (t, i) ∈ dsts) : Nat.testBit m i = true ∨ laterB all j i = true := by
  unfold badT at h
  rw [List.any_eq_false] at h
  have := h _ hm
  cases h1 : Nat.testBit m i with
  | true => exact .inl rfl
  | false =>
    cases h2 : laterB all j i with
    | true => exact .inr rfl
    | false => simp [h1, h2] at this

theorem badD_ok {dsts : List (Nat × Nat)} {m j t i : Nat} (h : badD dsts m j (some t) = false) (hm : (t, i) ∈ dsts) (hi : i < j) : Nat.testBit m i = true := by
  unfold badD at h
  simp only at h
  rw [List.any_eq_false] at h
  have := h _ hm
  have e : Nat.ble (i + 1) j = true := by rw [Nat.ble_eq]; exact hi
  simpa [e] using this

section
variable {opf : OpF} {sz : Nat} {ops : Array Oper} {S0 : Tr Bk} {T0 : Tr AV} {rs : List Rs} {nf n0 : Nat}

def Lof (listed : Array Bool) (i : Nat) : Bool := listed.getD i false

abbrev dsl (rs : List Rs) (L : Nat → Bool) (b : Nat) (i : Nat) : Option (Option Bk) := bif L i then lastOf (dlAt rs i) b else none
abbrev tsl (ops : Array Oper) (rs : List Rs) (L : Nat → Bool) (t : Nat) (i : Nat) : Option AV := bif L i then fT ops rs t i else none

variable (M : Dom) (B : Nat) (ρ0 : Env) (w0 : World) (sz ops S0 T0 rs nf) in
/-- How things stand with some of the operations behind. -/
structure Inv (listed : Array Bool) (a : Act) (w : World) (ρ : Env) : Prop where
  size : listed.size = ops.size
  clo : ∀ {i k}, Lof listed i = true → Nat.testBit (maskAt rs i) k = true → Lof listed k = true
  T : ∀ t, ((orT (lst (tsl ops rs (Lof listed) t) ops.size) (T0.get t)).getD (.tup [])).rel M ρ w (a.tmps.getD t undef)
  tsz : a.tmps.size = sz
  defers : a.defers = []
  S : SRel M B ρ w (stL S0 (Lof listed) 0 rs)
  hB : B ≤ w.heap.size
  env : ∀ b, (∀ i, Lof listed i = true → b < nsOf rs nf i ∨ nsOf rs nf (i + 1) ≤ b) → ρ.loc b = ρ0.loc b ∧ ρ.cap b = ρ0.cap b
  fr : Fr M ρ0 S0 w0 w
  src : ∀ {b k p}, (stL S0 (Lof listed) 0 rs).get b = some k → ρ.loc b = some p → w0.heap.size ≤ p ∨ ∃ b0 k0, S0.get b0 = some k0 ∧ ρ0.loc b0 = some p

variable {M : Dom} {B : Nat} {P : Program} {ρ0 ρ ρ' : Env} {w0 w w' : World} {listed : Array Bool} {a : Act}

theorem Plan.end_ (p : Plan opf sz ops (dstsOf ops.toList) S0 T0 rs nf n0) : nsOf rs nf ops.size = nf := by
  unfold nsOf
  rw [List.getElem?_eq_none (by have := p.len; omega)]

theorem Plan.lt_size (p : Plan opf sz ops (dstsOf ops.toList) S0 T0 rs nf n0) {i : Nat} {r : Rs} (h : rs[i]? = some r) : i < ops.size := by
  have := (List.getElem?_eq_some_iff.1 h).1
  have := p.len
  omega

theorem Lof_lt {i : Nat} (h : Lof listed i = true) : i < listed.size := by
  unfold Lof at h
  rw [Array.getD_eq_getD_getElem?] at h
  rcases Nat.lt_or_ge i listed.size with hh | hh
  · exact hh
  · rw [Array.getElem?_eq_none hh] at h; cases h

theorem Lof_set {i j : Nat} (hj : j < listed.size) : Lof (listed.setIfInBounds j true) i = if i = j then true else Lof listed i := by
  unfold Lof
  by_cases e : i = j
  · subst e
    rw [if_pos rfl, Array.getD_eq_getD_getElem?, Array.getElem?_setIfInBounds_self_of_lt hj]; rfl
  · rw [if_neg e, Array.getD_eq_getD_getElem?, Array.getElem?_setIfInBounds_ne (Ne.symm e), ← Array.getD_eq_getD_getElem?]

/-- What stands ready is not listed, and what it waits for is. -/
theorem Inv.ready (p : Plan opf sz ops (dstsOf ops.toList) S0 T0 rs nf n0) (I : Inv sz ops S0 T0 rs nf M B ρ0 w0 listed a w ρ) {j : Nat} (h : j ∈ Region.ready .any ops listed) :
    ∃ o r, ops[j]? = some o ∧ rs[j]? = some r ∧ Lof listed j = false ∧ ∀ {k}, Nat.testBit r.mask k = true → Lof listed k = true := by
  obtain ⟨h1, o, ho, h2⟩ := mem_ready.1 h
  obtain ⟨r, hr⟩ := p.res ho
  have hj : j < listed.size := by rw [I.size]; exact p.lt_size hr
  refine ⟨o, r, ho, hr, ?_, ?_⟩
  · unfold Lof
    rw [Array.getD_eq_getD_getElem?] at h1 ⊢
    simp [hj] at h1 ⊢
    exact h1
  · intro k hk
    rw [p.bit ho hr] at hk
    obtain ⟨e, he, hb, hlt, h3⟩ := hk
    have hL : Lof listed e.on = true := h2 e he hb
    rcases h3 with rfl | h3
    · exact hL
    · exact I.clo hL h3

/-- What an operation that is ready sees is so. -/
theorem Inv.sub (p : Plan opf sz ops (dstsOf ops.toList) S0 T0 rs nf n0) (I : Inv sz ops S0 T0 rs nf M B ρ0 w0 listed a w ρ) {j : Nat} {r : Rs} (hr : rs[j]? = some r) (hj : Lof listed j = false)
    (hm : ∀ {k}, Nat.testBit r.mask k = true → Lof listed k = true) {b : Nat} {k : Bk} (h : r.U.get b = some k) : (stL S0 (Lof listed) 0 rs).get b = some k := by
  rw [stL_get_all, ← h, p.U_get hr h]
  congr 1
  have hjs := p.lt_size hr
  rw [p.len]
  rw [← lst_above (k := ops.size) (f := fun i => bif Nat.testBit r.mask i then lastOf (dlAt rs i) b else none) (j := j) (by omega) (fun i h1 h2 => ?_)]
  · refine (lst_congr fun i hi => ?_)
    cases hmi : Nat.testBit r.mask i with
    | true => rw [hm hmi]
    | false =>
      cases hL : Lof listed i with
      | false => rfl
      | true =>
        simp only [cond_true, cond_false]
        cases hl : lastOf (dlAt rs i) b with
        | none => rfl
        | some x =>
          exfalso
          have hne : i ≠ j := fun e => by rw [e, hj] at hL; cases hL
          have hri : (rs[i]?).isSome = true := by have := p.len; simp; omega
          obtain ⟨q, hq⟩ := Option.isSome_iff_exists.1 hri
          rw [dlAt_at hq] at hl
          refine p.blind (i := i) (j := j) hq hr hne hmi ?_ (by rw [hl]; simp) h
          cases hb : Nat.testBit q.mask j with
          | false => rfl
          | true =>
            have := I.clo hL (k := j) (by rw [maskAt_at hq]; exact hb)
            rw [hj] at this; cases this
  · cases hb : Nat.testBit r.mask i with
    | false => rfl
    | true =>
      have := p.bit_lt (j := j) (k := i) (by rw [maskAt_at hr]; exact hb)
      omega

theorem Plan.U_lt (p : Plan opf sz ops (dstsOf ops.toList) S0 T0 rs nf n0) {j b : Nat} {r : Rs} {k : Bk} (hr : rs[j]? = some r) (h : r.U.get b = some k) : b < r.ns := by
  have hU := p.U_get hr h
  rw [h] at hU
  have hjs := p.lt_size hr
  cases hl : lst (fun i => bif Nat.testBit r.mask i then lastOf (dlAt rs i) b else none) j with
  | none =>
    rw [hl] at hU
    have h1 := p.keys0 hU.symm
    have h2 := p.mono (i := 0) (k := j) (by omega) (by omega)
    rw [p.start, nsOf_at hr] at h2
    omega
  | some x =>
    obtain ⟨i, hi, hx⟩ := lst_some hl
    have hri : (rs[i]?).isSome = true := by have := p.len; simp; omega
    obtain ⟨q, hq⟩ := Option.isSome_iff_exists.1 hri
    have h1 : lastOf q.dl b ≠ none := by
      rw [← dlAt_at hq]
      cases hb : Nat.testBit r.mask i with
      | false => rw [hb] at hx; cases hx
      | true => rw [hb] at hx; simp only [cond_true] at hx; rw [hx]; simp
    have h2 := p.key_lt hq h1
    have h3 := p.mono (i := i + 1) (k := j) (by omega) (by omega)
    rw [nsOf_at hr] at h3
    omega

theorem Plan.key_all (p : Plan opf sz ops (dstsOf ops.toList) S0 T0 rs nf n0) {L : Nat → Bool} {b : Nat} {k : Bk} (h : (stL S0 L 0 rs).get b = some k) : b < nf := by
  rw [stL_get_all] at h
  cases hl : lst (fun i => bif L i then lastOf (dlAt rs i) b else none) rs.length with
  | none =>
    rw [hl] at h
    have h1 := p.keys0 h
    have h2 := p.mono (i := 0) (k := ops.size) (by omega) (by omega)
    rw [p.start, p.end_] at h2
    omega
  | some x =>
    obtain ⟨i, hi, hx⟩ := lst_some hl
    have hri : (rs[i]?).isSome = true := by simp; omega
    obtain ⟨q, hq⟩ := Option.isSome_iff_exists.1 hri
    have h1 : lastOf q.dl b ≠ none := by
      rw [← dlAt_at hq]
      cases hb : L i with
      | false => rw [hb] at hx; cases hx
      | true => rw [hb] at hx; simp only [cond_true] at hx; rw [hx]; simp
    have h2 := p.key_lt hq h1
    have h3 := p.mono (i := i + 1) (k := ops.size) (by have := p.len; omega) (by omega)
    rw [p.end_] at h3
    omega

theorem Inv.free (p : Plan opf sz ops (dstsOf ops.toList) S0 T0 rs nf n0) (I : Inv sz ops S0 T0 rs nf M B ρ0 w0 listed a w ρ) (hf : Free ρ0 n0 nf) {j : Nat} (hjs : j < ops.size) (hj : Lof listed j = false) : Free ρ (nsOf rs nf j) (nsOf rs nf (j + 1)) := by
  intro b h1 h2
  have h3 := p.mono (i := 0) (k := j) (by omega) (by omega)
  have h4 := p.mono (i := j + 1) (k := ops.size) (by omega) (by omega)
  rw [p.start] at h3
  rw [p.end_] at h4
  obtain ⟨e1, e2⟩ := I.env b fun i hi => by
    have hne : i ≠ j := fun e => by rw [e, hj] at hi; cases hi
    have his : i < ops.size := by rw [← I.size]; exact Lof_lt hi
    rcases Nat.lt_or_gt_of_ne hne with hlt | hgt
    · have := p.mono (i := i + 1) (k := j) (by omega) (by omega); omega
    · have := p.mono (i := j + 1) (k := i) (by omega) (by omega); omega
  rw [e1, e2]
  exact hf b (by omega) (by omega)

/-- One more of the operations. -/
theorem Inv.next (p : Plan opf sz ops (dstsOf ops.toList) S0 T0 rs nf n0) (I : Inv sz ops S0 T0 rs nf M B ρ0 w0 listed a w ρ) (hf : Free ρ0 n0 nf) {j : Nat} {o : Oper} {r : Rs} (ho : ops[j]? = some o) (hr : rs[j]? = some r)
    (hj : Lof listed j = false) (hm : ∀ {k}, Nat.testBit r.mask k = true → Lof listed k = true) {v : Value} (hT : Tn M B ρ w r.U r.ns ρ' w' (puts r.U r.dl) (nsOf rs nf (j + 1))) (hv : r.av.rel M ρ' w' v) :
    Inv sz ops S0 T0 rs nf M B ρ0 w0 (listed.setIfInBounds j true) (a.put o.dst v) w' ρ' := by
  have hjs := p.lt_size hr
  have hjl : j < listed.size := by rw [I.size]; exact hjs
  have hns : nsOf rs nf j = r.ns := nsOf_at hr
  have hfree := I.free p hf hjs hj
  rw [hns] at hfree
  have up := hT.up hfree
  have hLj : Lof (listed.setIfInBounds j true) j = true := by rw [Lof_set hjl, if_pos rfl]
  have hLn : ∀ {i}, i ≠ j → Lof (listed.setIfInBounds j true) i = Lof listed i := fun e => by rw [Lof_set hjl, if_neg e]
  have hnot : ∀ {i}, Lof listed i = true → Nat.testBit (maskAt rs i) j = false := by
    intro i hi
    cases hb : Nat.testBit (maskAt rs i) j with
    | false => rfl
    | true => have := I.clo hi hb; rw [hj] at this; cases this
  have F : Frame r.U (stL S0 (Lof listed) 0 rs) (puts r.U r.dl) (stL S0 (Lof (listed.setIfInBounds j true)) 0 rs) := by
    refine ⟨fun h => I.sub p hr hj hm h, fun {b k} h => ?_⟩
    rw [stL_get_all] at h
    rw [get_puts]
    cases hl : lastOf r.dl b with
    | some x =>
      left
      rw [lst_at (j := j) (x := x) (by have := p.len; omega) ?_ ?_] at h
      · exact h
      · simp only [hLj, cond_true, dlAt_at hr, hl]
      · intro i hi1 hi2
        rw [hLn (by omega)]
        cases hLi : Lof listed i with
        | false => rfl
        | true =>
          simp only [cond_true]
          have hri : (rs[i]?).isSome = true := by simp; omega
          obtain ⟨q, hq⟩ := Option.isSome_iff_exists.1 hri
          rw [dlAt_at hq]
          cases hlq : lastOf q.dl b with
          | none => rfl
          | some y =>
            exfalso
            have h1 := p.key_lt hr (b := b) (by rw [hl]; simp)
            have h2 := p.mono (i := j + 1) (k := i) (by omega) (by have := p.len; omega)
            rw [nsOf_at hq] at h2
            obtain ⟨k', hk'⟩ := p.seen hq (b := b) (by rw [hlq]; simp) (by omega)
            refine p.blind (i := j) (j := i) hr hq (by omega) ?_ ?_ (b := b) (by rw [hl]; simp) hk'
            · rw [← maskAt_at hq]; exact hnot hLi
            · cases hb : Nat.testBit r.mask i with
              | false => rfl
              | true => have := p.bit_lt (j := j) (k := i) (by rw [maskAt_at hr]; exact hb); omega
    | none =>
      have e : lst (fun i => bif Lof (listed.setIfInBounds j true) i then lastOf (dlAt rs i) b else none) rs.length = lst (fun i => bif Lof listed i then lastOf (dlAt rs i) b else none) rs.length := by
        refine lst_congr fun i hi => ?_
        by_cases hij : i = j
        · subst hij
          rw [hLj, hj]
          simp only [cond_true, cond_false, dlAt_at hr, hl]
        · rw [hLn hij]
      rw [e, ← stL_get_all] at h
      cases hU : r.U.get b with
      | none => right; exact ⟨h, rfl⟩
      | some k' =>
        left
        have := I.sub p hr hj hm hU
        rw [h] at this
        simp only [Option.getD_none]
        exact this.symm
  have hS' := F.rel I.S hT up
  refine ⟨by simp [I.size], ?_, ?_, ?_, ?_, hS', Nat.le_trans I.hB hT.fr.kept.size, ?_, ?_, ?_⟩
  · intro i k hi hk
    by_cases hij : i = j
    · subst hij
      rw [maskAt_at hr] at hk
      have := hm hk
      by_cases hkj : k = i
      · subst hkj; exact hLj
      · rw [hLn hkj]; exact this
    · rw [hLn hij] at hi
      have := I.clo hi hk
      by_cases hkj : k = j
      · subst hkj; exact hLj
      · rw [hLn hkj]; exact this
  · intro t
    have hg := p.good ho hr
    by_cases hd : o.dst = some t
    · have e : lst (tsl ops rs (Lof (listed.setIfInBounds j true)) t) ops.size = some r.av := by
        refine lst_at (j := j) hjs ?_ ?_
        · simp only [tsl, hLj, cond_true, fT, ho, hr, hd, if_true]
        · intro i hi1 hi2
          simp only [tsl]
          rw [hLn (by omega)]
          cases hLi : Lof listed i with
          | false => rfl
          | true =>
            simp only [cond_true]
            have hri : (rs[i]?).isSome = true := by have := p.len; simp; omega
            obtain ⟨q, hq⟩ := Option.isSome_iff_exists.1 hri
            obtain ⟨oi, hoi⟩ := p.oper hq
            unfold fT
            rw [hoi, hq]
            simp only
            by_cases hdi : oi.dst = some t
            · exfalso
              have h1 := (p.good hoi hq).dst
              rw [hdi] at h1
              have h2 := badD_ok h1 (dstsOf_mem ho hd) hi1
              have h3 := hnot hLi
              rw [maskAt_at hq, h2] at h3
              cases h3
            · rw [if_neg hdi]
      rw [e]
      have hlt : t < a.tmps.size := by rw [I.tsz]; exact hg.room t hd
      simp only [orT, Option.getD_some, hd, Act.put]
      rw [Array.getD_eq_getD_getElem?, Array.getElem?_setIfInBounds_self_of_lt hlt]
      exact hv
    · have e : lst (tsl ops rs (Lof (listed.setIfInBounds j true)) t) ops.size = lst (tsl ops rs (Lof listed) t) ops.size := by
        refine lst_congr fun i hi => ?_
        simp only [tsl]
        by_cases hij : i = j
        · subst hij
          rw [hLj, hj]
          simp only [cond_true, cond_false, fT, ho, hr, if_neg hd]
        · rw [hLn hij]
      rw [e]
      have hh := (I.T t).mono up hT.fr.kept
      have e2 : (a.put o.dst v).tmps.getD t undef = a.tmps.getD t undef := by
        cases hdd : o.dst with
        | none => rfl
        | some d =>
          have hne : t ≠ d := fun e => by rw [hdd, e] at hd; exact hd rfl
          simp only [Act.put]
          rw [Array.getD_eq_getD_getElem?, Array.getElem?_setIfInBounds_ne (Ne.symm hne), ← Array.getD_eq_getD_getElem?]
      rw [e2]
      exact hh
  · have hts := I.tsz
    cases hdd : o.dst with
    | none => exact hts
    | some d => simpa [Act.put] using hts
  · rw [put_defers]; exact I.defers
  · intro b hb
    obtain ⟨e1, e2⟩ := hT.env b (by have := hb j hLj; rw [hns] at this; exact this)
    obtain ⟨e3, e4⟩ := I.env b fun i hi => hb i (by
      by_cases hij : i = j
      · subst hij; exact hLj
      · rw [hLn hij]; exact hi)
    exact ⟨e1.trans e3, e2.trans e4⟩
  · exact I.fr.trans (F.fr hT) I.src
  · intro b k q hb hq
    rcases F.src I.S hT up hb hq with hh | ⟨b0, k0, h1, h2⟩
    · exact .inl (Nat.le_trans I.fr.kept.size hh)
    · exact I.src h1 h2

/-- What an operation that is ready is given is so. -/
theorem Inv.ev (p : Plan opf sz ops (dstsOf ops.toList) S0 T0 rs nf n0) (I : Inv sz ops S0 T0 rs nf M B ρ0 w0 listed a w ρ) {j : Nat} {r : Rs} (hr : rs[j]? = some r)
    (hjn : Lof listed j = false) (hm : ∀ {k}, Nat.testBit r.mask k = true → Lof listed k = true) {T : Tr AV} (hT : ∀ t, T.get t = orT (lst (fT ops rs t) j) (T0.get t)) : EvRel M ρ w (evD ops T (dstsOf ops.toList) j r.mask) a.eval := by
  have hjs := p.lt_size hr
  intro x av hx
  cases x with
  | tmp t =>
    simp only [evD] at hx
    cases hb : badT ops (dstsOf ops.toList) j r.mask t with
    | true => rw [hb] at hx; cases hx
    | false =>
      rw [hb] at hx
      simp only [cond_false, Option.some.injEq] at hx
      subst hx
      have hlat : ∀ {i}, laterB ops j i = true → j < i ∧ Nat.testBit (maskAt rs i) j = true := by
        intro i hi
        unfold laterB at hi
        simp only [Bool.and_eq_true] at hi
        obtain ⟨h1, h2⟩ := hi
        have h1' : j < i := Nat.le_of_ble_eq_true h1
        split at h2
        · rename_i oi hoi
          rw [List.any_eq_true] at h2
          obtain ⟨e, he, hbe⟩ := h2
          simp only [Bool.and_eq_true] at hbe
          obtain ⟨q, hq⟩ := p.res hoi
          refine ⟨h1', ?_⟩
          rw [maskAt_at hq, p.bit hoi hq]
          have := Nat.eq_of_beq_eq_true hbe.2
          exact ⟨e, by simpa using he, hbe.1, by omega, .inl this.symm⟩
        · cases h2
      have hw : ∀ {i}, fT ops rs t i ≠ none → Nat.testBit r.mask i = true ∨ laterB ops j i = true := by
        intro i hi
        unfold fT at hi
        split at hi
        · rename_i oi q hoi hq
          split at hi
          · rename_i hd
            exact badT_ok hb (dstsOf_mem hoi hd)
          · exact absurd rfl hi
        · exact absurd rfl hi
      have e : lst (fT ops rs t) j = lst (tsl ops rs (Lof listed) t) ops.size := by
        rw [lst_above (f := tsl ops rs (Lof listed) t) (j := j) (k := ops.size) (by omega) (fun i h1 h2 => ?_)]
        · refine lst_congr fun i hi => ?_
          simp only [tsl]
          cases hfi : fT ops rs t i with
          | none => cases Lof listed i <;> rfl
          | some y =>
            rcases hw (i := i) (by rw [hfi]; simp) with h3 | h3
            · rw [hm h3]; rfl
            · have := (hlat h3).1; omega
        · simp only [tsl]
          cases hL : Lof listed i with
          | false => rfl
          | true =>
            cases hfi : fT ops rs t i with
            | none => rfl
            | some y =>
              exfalso
              rcases hw (i := i) (by rw [hfi]; simp) with h3 | h3
              · have := p.bit_lt (j := j) (k := i) (by rw [maskAt_at hr]; exact h3)
                omega
              · have := I.clo hL (hlat h3).2
                rw [hjn] at this; cases this
      rw [hT t, e]
      exact I.T t
  | const v => exact ofValue_rel hx
  | global g => simp only [evD, evO, Option.some.injEq] at hx; subst hx; exact ⟨rfl, rfl⟩
  | func f => simp only [evD, evO, Option.some.injEq] at hx; subst hx; exact ⟨rfl, rfl⟩

theorem Inv.step (p : Plan opf sz ops (dstsOf ops.toList) S0 T0 rs nf n0) (hok : OpOK M B P opf) (I : Inv sz ops S0 T0 rs nf M B ρ0 w0 listed a w ρ) (hf : Free ρ0 n0 nf) {j : Nat} (hj : j ∈ Region.ready .any ops listed) {Q : Exit → Act → World → Prop} :
    wpOp P ops Q j (fun a w => ∃ ρ, Inv sz ops S0 T0 rs nf M B ρ0 w0 (listed.setIfInBounds j true) a w ρ) a w := by
  obtain ⟨o, r, ho, hr, hjn, hm⟩ := I.ready p hj
  have hjs := p.lt_size hr
  have hg := p.good ho hr
  unfold wpOp
  rw [ho]
  simp only
  obtain ⟨T, hT, h6⟩ := hg.run
  have he := I.ev p hr hjn hm hT
  have hSU : SRel M B ρ w r.U := I.S.sub fun h => I.sub p hr hjn hm h
  have hns : nsOf rs nf j = r.ns := nsOf_at hr
  have hfree := I.free p hf hjs hjn
  rw [hns] at hfree
  rcases h6 with ⟨hw, _, hop, _⟩ | ⟨hw, h1, h2, h3, h4⟩
  · rw [if_pos (wantedA_ok he hw)]
    left
    refine hok he hSU I.hB (fun h => p.U_lt hr h) hfree hop fun v w' ρ' hv hTn => ⟨ρ', I.next p hf ho hr hjn hm hTn hv⟩
  · rw [if_neg (by rw [wantedA_ok he hw]; simp)]
    refine ⟨ρ, I.next p hf ho hr hjn hm ?_ ?_⟩
    · rw [h2, h3]
      exact Tn.refl hSU _ (fun h => p.U_lt hr h)
    · rw [h1]; exact ⟨[], rfl, trivial⟩

theorem kept_heap {s : Bool} {w w' : World} (h : w'.heap = w.heap) : Kept s w w' :=
  ⟨by rw [h]; exact Nat.le_refl _, fun _ p x hx => by unfold World.cell? at hx ⊢; rw [h]; exact hx⟩

theorem mem_oversAll {b i : Nat} : ∀ {rs : List Rs} {r : Rs}, rs[i]? = some r → b ∈ overs r.ns r.dl → b ∈ oversAll rs := by
  induction i with
  | zero =>
    intro rs r h hb
    cases rs with
    | nil => cases h
    | cons q rs => simp at h; subst h; unfold oversAll; simp [hb]
  | succ i ih =>
    intro rs r h hb
    cases rs with
    | nil => cases h
    | cons q rs => simp at h; unfold oversAll; simp [ih h hb]

theorem drawGo_le {opf : OpF} (hle : OpLe opf) {sz : Nat} {ops : Array Oper} {dsts : List (Nat × Nat)} {S0 : Tr Bk} : ∀ {l : List Oper} {j : Nat} {T : Tr AV} {n : Nat} {acc : List Rs} {Tf : Tr AV} {nf : Nat} {rs : List Rs},
    drawGo opf sz ops dsts S0 l j T n acc = some (Tf, nf, rs) → n ≤ nf
  | [], j, T, n, acc, Tf, nf, rs, h => by
    simp only [drawGo, Option.some.injEq, Prod.mk.injEq] at h
    omega
  | o :: r, j, T, n, acc, Tf, nf, rs, h => by
    unfold drawGo at h
    dsimp only at h
    cases hc : (edgesLt j o.after.toList && !badD dsts (maskEdges acc o.after.toList) j o.dst) with
    | false => rw [hc] at h; simp at h
    | true =>
      rw [hc] at h
      simp only [cond_true] at h
      split at h
      · split at h
        · rename_i av dl n' hop
          cases hok : okDl (memOf (evD ops T dsts j (maskEdges acc o.after.toList)) o.op (bif usesMem o.op then stL S0 (Nat.testBit (maskEdges acc o.after.toList)) 0 acc else .e)) n n' dl with
          | false => rw [hok] at h; simp at h
          | true =>
            rw [hok] at h
            simp only [cond_true] at h
            split at h
            · exact Nat.le_trans (hle hop) (drawGo_le hle h)
            · cases h
        · cases h
      · split at h
        · exact drawGo_le hle h
        · cases h
      · cases h

theorem badTT_eq (all : Array Oper) (j m t : Nat) : ∀ dsts : List (Nat × Nat), badTT all (dstsTr dsts) j m t = badT all dsts j m t
  | [] => rfl
  | (d, i) :: r => by
    have ih := badTT_eq all j m t r
    unfold badTT badT at ih ⊢
    rw [dstsTr, Tr.get_put, List.any_cons, ← ih]
    simp only [beq_nat]
    by_cases e : t = d
    · subst e
      rw [if_pos rfl]
      cases (dstsTr r).get t with
      | none => simp
      | some l => simp
    · rw [if_neg e]
      have : decide (d = t) = false := by simp; exact fun h => e h.symm
      rw [this, Bool.false_and, Bool.false_or]

theorem badDT_eq (m j : Nat) (d : Option Nat) : ∀ dsts : List (Nat × Nat), badDT (dstsTr dsts) m j d = badD dsts m j d
  | [] => by cases d <;> rfl
  | (d', i) :: r => by
    have ih := badDT_eq m j d r
    cases d with
    | none => rfl
    | some t =>
      unfold badDT badD at ih ⊢
      simp only at ih ⊢
      rw [dstsTr, Tr.get_put, List.any_cons, ← ih]
      simp only [beq_nat]
      by_cases e : t = d'
      · subst e
        rw [if_pos rfl]
        cases (dstsTr r).get t with
        | none => simp
        | some l => simp
      · rw [if_neg e]
        have : decide (d' = t) = false := by simp; exact fun h => e h.symm
        rw [this, Bool.false_and, Bool.false_or]

theorem evDT_eq (all : Array Oper) (T : Tr AV) (j m : Nat) (dsts : List (Nat × Nat)) : evDT all T (dstsTr dsts) j m = evD all T dsts j m := by
  funext x
  cases x with
  | tmp t => simp only [evDT, evD, badTT_eq]
  | const v => rfl
  | global g => rfl
  | func f => rfl

theorem maskT_eq {mt : Tr Nat} {acc : List Rs} (h : ∀ i, mt.get i = (acc[i]?).map (·.mask)) : ∀ es : List Edge, maskT mt es = maskEdges acc es
  | [] => rfl
  | e :: es => by
    rw [maskT, maskEdges, maskT_eq h es, h]
    cases acc[e.on]? <;> rfl

theorem drawGoF_eq (opf : OpF) (sz : Nat) (ops : Array Oper) (dsts : List (Nat × Nat)) (S0 : Tr Bk) : ∀ (l : List Oper) (j : Nat) (T : Tr AV) (n : Nat) (acc racc : List Rs) (mt : Tr Nat) (dls : List (Nat × Dl)),
    racc.reverse = acc → acc.length = j → (∀ i, mt.get i = (acc[i]?).map (·.mask)) → (∀ S L, stLR S L dls = stL S L 0 acc) →
    drawGoF opf sz ops (dstsTr dsts) S0 l j T n racc mt dls = drawGo opf sz ops dsts S0 l j T n acc
  | [], j, T, n, acc, racc, mt, dls, h1, h2, h3, h4 => by rw [drawGoF, drawGo, h1]
  | o :: r, j, T, n, acc, racc, mt, dls, h1, h2, h3, h4 => by
    have hm : maskT mt o.after.toList = maskEdges acc o.after.toList := maskT_eq h3 _
    have step : ∀ (T' : Tr AV) (n' : Nat) (R : Rs), R.mask = maskEdges acc o.after.toList → drawGoF opf sz ops (dstsTr dsts) S0 r (j + 1) T' n' (R :: racc) (mt.put j (some (maskEdges acc o.after.toList))) (addDl j R.dl dls) = drawGo opf sz ops dsts S0 r (j + 1) T' n' (acc ++ [R]) := by
      intro T' n' R hR
      refine drawGoF_eq opf sz ops dsts S0 r (j + 1) T' n' (acc ++ [R]) (R :: racc) _ _ (by simp [h1]) (by simp [h2]) (fun i => ?_) (fun S L => ?_)
      · rw [Tr.get_put]
        by_cases e : i = j
        · subst e
          rw [if_pos rfl, List.getElem?_append_right (by omega)]
          simp [h2, hR]
        · rw [if_neg e, h3]
          rcases Nat.lt_or_ge i j with hi | hi
          · rw [List.getElem?_append_left (by omega)]
          · rw [List.getElem?_eq_none (by omega), List.getElem?_eq_none (by simp; omega)]
      · rw [stL_append S L acc 0 R S, Nat.zero_add, h2]
        unfold addDl
        split
        · rename_i he
          rw [he, h4]
          simp only [puts]
          cases L j <;> rfl
        · rename_i he
          rw [stLR, h4, he]
    rw [drawGoF, drawGo]
    dsimp only
    rw [hm, badDT_eq, evDT_eq, h4]
    congr 1
    split
    · split
      · split
        · rename_i av dl n' _ _ T' _
          rw [step T' n' ⟨av, dl, n, maskEdges acc o.after.toList, _⟩ rfl]
        · rfl
      · rfl
    · split
      · rename_i T' _
        exact step T' n ⟨.tup [], [], n, maskEdges acc o.after.toList, .e⟩ rfl
      · rfl
    · rfl

theorem draw_ok (hmix : P.follows .mixedOrders = true) (hok : OpOK M B P opf) (hle : OpLe opf) : DrawOK M B P opf := by
  intro sz ops st st' h
  unfold drawOps at h
  rw [drawGoF_eq opf sz ops (dstsOf ops.toList) st.S ops.toList 0 st.T st.n [] [] .e [] rfl rfl (fun i => by simp [Tr.get_e]) (fun S L => rfl)] at h
  split at h
  · rename_i T n rs hgo
    cases hap : apartAll 0 rs with
    | false => rw [hap] at h; cases h
    | true =>
      rw [hap] at h
      simp only [cond_true, Option.some.injEq] at h
      subst h
      obtain ⟨hlen, hT, hG, hst0⟩ := drawGo_spec opf sz ops (dstsOf ops.toList) st.S st.T ops.toList 0 st.T st.n [] T n rs hgo rfl rfl (Nat.zero_le _) (fun t => rfl) (fun i o r _ hr => by simp at hr)
      have hnn : st.n ≤ n := drawGo_le hle hgo
      refine ⟨hnn, ?_⟩
      intro id ρ w a Q hst hf hq
      have p : Plan opf sz ops (dstsOf ops.toList) st.S st.T rs n st.n := ⟨hle, hlen, fun ho hr => hG _ _ _ ho hr, hap, fun h => hst.keys h, hst0⟩
      refine wp_region_any hmix ?_
      have I0 : ∃ ρ', Inv sz ops st.S st.T rs n M B ρ w (Array.replicate ops.size false) a { w with drawn := w.drawn + 1 } ρ' := by
        have hL : ∀ i, Lof (Array.replicate ops.size false) i = false := by
          intro i
          unfold Lof
          rw [Array.getD_eq_getD_getElem?, Array.getElem?_replicate]
          split <;> rfl
        have hg : ∀ b, (stL st.S (Lof (Array.replicate ops.size false)) 0 rs).get b = st.S.get b := by
          intro b
          rw [stL_get_all, lst_none (fun i _ => by rw [hL]; rfl)]
          rfl
        have hkp : Kept M.strict w { w with drawn := w.drawn + 1 } := kept_heap rfl
        refine ⟨ρ, { size := by simp, clo := fun h => (by rw [hL] at h; cases h), T := fun t => ?_, tsz := hst.size, defers := hst.defers, S := ?_, hB := hst.hB, env := fun b _ => ⟨rfl, rfl⟩, fr := ⟨rfl, rfl, rfl, fun _ _ _ => rfl, hkp⟩, src := fun hb hp => ?_ }⟩
        · rw [lst_none (fun i _ => by simp only [tsl, hL, cond_false])]
          exact (hst.T t).mono (Env.le.refl ρ) hkp
        · refine ⟨fun {b k} hb => ?_, fun {b b' k k' q} hb hb' hp hp' => ?_, hst.S.low (Nat.le_refl _) fun _ _ _ => rfl⟩
          · rw [hg] at hb
            obtain ⟨q, h1, h2, h3⟩ := hst.S.at' hb
            exact ⟨q, h1, h2, h3.mono (Env.le.refl ρ) hkp rfl⟩
          · rw [hg] at hb hb'
            exact hst.S.inj hb hb' hp hp'
        · rw [hg] at hb
          exact .inr ⟨_, _, hb, hp⟩
      refine wpAny_inv (fun listed a w' => ∃ ρ', Inv sz ops st.S st.T rs n M B ρ w listed a w' ρ') ?_ ?_ ?_ ?_ ops.size _ _ _ I0 ?_
      · rintro listed a w' ⟨ρ', I⟩; exact I.size
      · intro i o ho e he hb
        obtain ⟨r, hr⟩ := p.res ho
        exact edgesLt_ok (p.good ho hr).edges (by simpa using he) hb
      · rintro listed a w' j ⟨ρ', I⟩ hj
        exact I.step p hok hf hj
      · rintro listed a w' ⟨ρ', I⟩ hall
        have hL : ∀ i, i < ops.size → Lof listed i = true := by
          intro i hi
          have := hall i hi
          unfold Lof
          have hi' : i < listed.size := by rw [I.size]; exact hi
          rw [Array.getD_eq_getD_getElem?] at this ⊢
          simp [hi'] at this ⊢
          exact this
        have hg : ∀ b, (stL st.S (fun _ => true) 0 rs).get b = (stL st.S (Lof listed) 0 rs).get b := by
          intro b
          rw [stL_get_all, stL_get_all]
          congr 1
          refine lst_congr fun i hi => ?_
          rw [hL i (by omega)]
        have hS : SRel M B ρ' w' (stL st.S (fun _ => true) 0 rs) := I.S.sub fun h => by rw [← hg]; exact h
        refine hq ρ' w' a ⟨fun t => ?_, I.tsz, I.defers, hS, I.hB, fun hb => p.key_all hb⟩ ⟨⟨hS, hnn, fun b hb => ?_, I.fr, fun hb hp => I.src (by rw [← hg]; exact hb) hp, fun hb => p.key_all hb⟩, fun b hb => by simp [hb], fun b hb hnb => ?_⟩
        · rw [hT t, show lst (fT ops rs t) ops.size = lst (tsl ops rs (Lof listed) t) ops.size from lst_congr fun i hi => by simp only [tsl]; rw [hL i hi]; rfl]
          exact I.T t
        · refine I.env b fun i hi => ?_
          have his : i < ops.size := by rw [← I.size]; exact Lof_lt hi
          have h3 := p.mono (i := 0) (k := i) (by omega) (by omega)
          have h4 := p.mono (i := i + 1) (k := ops.size) (by omega) (by omega)
          rw [p.start] at h3
          rw [p.end_] at h4
          simp only at hb
          omega
        · rw [stL_get_all, lst_none (fun i hi => ?_)]
          · rfl
          · simp only [cond_true]
            obtain ⟨r, hr⟩ : ∃ r, rs[i]? = some r := ⟨rs[i], by simp [hi]⟩
            rw [dlAt_at hr]
            cases hl : lastOf r.dl b with
            | none => rfl
            | some x =>
              exfalso
              apply hnb
              have h3 := p.mono (i := 0) (k := i) (by omega) (by omega)
              rw [p.start, nsOf_at hr] at h3
              refine List.mem_append_left _ (mem_oversAll hr (mem_overs (by rw [hl]; simp) (by omega)))
      · have := List.countP_le_length (p := (· == false)) (l := (Array.replicate ops.size false).toList)
        simpa using this
  · cases h

/-- What a call comes to. -/
theorem evalCall_ok {cx : Cx} (hmix : cx.P.follows .mixedOrders = true) (hcx : CxOK M B cx) (k : Nat) : CallOK M B cx.P (evalCall cx k) :=
  callA_ok hcx fun sz => evalCode_ok hcx (fun hok hle => draw_ok hmix hok hle) k sz
end
end Go.Ev
