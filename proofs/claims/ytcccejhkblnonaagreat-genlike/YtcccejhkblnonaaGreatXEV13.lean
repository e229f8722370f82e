/- A reader of closed calls: what stands of a region that draws its order, whatever comes up next. -/
import Derived.Test.YtcccejhkblnonaaGreatXEV12
namespace Go.Ev
open Go.RowKit
set_option linter.unusedVariables false
set_option linter.unusedSimpArgs false

section
variable {opf : OpF} {sz : Nat} {ops : Array Oper} {dsts : List (Nat × Nat)} {S0 : Tr Bk} {T0 : Tr AV} {rs : List Rs} {nf n0 : Nat}

/-- All that was reckoned of a region. -/
structure Plan (opf : OpF) (sz : Nat) (ops : Array Oper) (dsts : List (Nat × Nat)) (S0 : Tr Bk) (T0 : Tr AV) (rs : List Rs) (nf n0 : Nat) : Prop where
  le : OpLe opf
  len : rs.length = ops.size
  good : ∀ {i o r}, ops[i]? = some o → rs[i]? = some r → Good opf sz ops dsts S0 T0 rs i o r (nsOf rs nf (i + 1))
  apart : apartAll 0 rs = true
  keys0 : ∀ {b k}, S0.get b = some k → b < n0
  start : nsOf rs nf 0 = n0

theorem Plan.oper (p : Plan opf sz ops dsts S0 T0 rs nf n0) {i : Nat} {r : Rs} (h : rs[i]? = some r) : ∃ o, ops[i]? = some o := by
  have h1 := (List.getElem?_eq_some_iff.1 h).1
  have h2 := p.len
  exact ⟨ops[i]'(by omega), by simp⟩

theorem Plan.res (p : Plan opf sz ops dsts S0 T0 rs nf n0) {i : Nat} {o : Oper} (h : ops[i]? = some o) : ∃ r, rs[i]? = some r := by
  have h1 := (Array.getElem?_eq_some_iff.1 h).1
  have h2 := p.len
  exact ⟨rs[i]'(by omega), by simp⟩

theorem nsOf_at {i : Nat} {r : Rs} (h : rs[i]? = some r) : nsOf rs nf i = r.ns := by unfold nsOf; rw [h]

theorem Plan.step (p : Plan opf sz ops dsts S0 T0 rs nf n0) {i : Nat} (h : i < ops.size) : nsOf rs nf i ≤ nsOf rs nf (i + 1) := by
  have ho : ops[i]? = some ops[i] := by simp [h]
  obtain ⟨r, hr⟩ := p.res ho
  obtain ⟨_, _, _, _, T, _, h6⟩ := p.good ho hr
  rw [nsOf_at hr]
  rcases h6 with ⟨_, _, hop, _⟩ | ⟨_, _, _, e, _⟩
  · exact p.le hop
  · rw [e]; exact Nat.le_refl _

theorem Plan.mono (p : Plan opf sz ops dsts S0 T0 rs nf n0) {i : Nat} : ∀ {k : Nat}, i ≤ k → k ≤ ops.size → nsOf rs nf i ≤ nsOf rs nf k
  | 0, h, _ => by
    have e : i = 0 := by omega
    subst e; exact Nat.le_refl _
  | k + 1, h, hk => by
    by_cases e : i = k + 1
    · subst e; exact Nat.le_refl _
    · exact Nat.le_trans (p.mono (k := k) (by omega) (by omega)) (p.step (by omega))

theorem maskAt_take {j i : Nat} (h : i < j) : maskAt (rs.take j) i = maskAt rs i := by
  unfold maskAt
  rw [List.getElem?_take, if_pos h]

theorem maskAt_at {i : Nat} {r : Rs} (h : rs[i]? = some r) : maskAt rs i = r.mask := by unfold maskAt; rw [h]

theorem edgesLt_ok {j : Nat} {es : List Edge} (h : edgesLt j es = true) {e : Edge} (he : e ∈ es) (hb : Region.binds .any e = true) : e.on < j := by
  unfold edgesLt at h
  rw [List.all_eq_true] at h
  have := h e he
  rw [hb] at this
  have h3 : e.on + 1 ≤ j := by simpa [Nat.ble_eq] using this
  omega

/-- The edges' bits, of the whole. -/
theorem Plan.bit (p : Plan opf sz ops dsts S0 T0 rs nf n0) {j k : Nat} {o : Oper} {r : Rs} (ho : ops[j]? = some o) (hr : rs[j]? = some r) : Nat.testBit r.mask k = true ↔ ∃ e ∈ o.after, Region.binds .any e = true ∧ e.on < j ∧ (k = e.on ∨ Nat.testBit (maskAt rs e.on) k = true) := by
  have hg := p.good ho hr
  rw [hg.mask]
  constructor
  · intro h
    obtain ⟨e, h1, h2, h3⟩ := maskEdges_bit h
    have hlt := edgesLt_ok hg.edges h1 h2
    refine ⟨e, by simpa using h1, h2, hlt, ?_⟩
    rwa [maskAt_take hlt] at h3
  · rintro ⟨e, h1, h2, hlt, h3⟩
    refine maskEdges_sub (by simpa using h1) h2 ?_
    rwa [maskAt_take hlt]

theorem Plan.bit_lt (p : Plan opf sz ops dsts S0 T0 rs nf n0) : ∀ {j k : Nat}, Nat.testBit (maskAt rs j) k = true → k < j := by
  intro j
  induction j using Nat.strongRecOn with
  | ind j ih =>
    intro k h
    cases hr : rs[j]? with
    | none => unfold maskAt at h; rw [hr] at h; simp at h
    | some r =>
      obtain ⟨o, ho⟩ := p.oper hr
      rw [maskAt_at hr, p.bit ho hr] at h
      obtain ⟨e, _, _, hlt, h3⟩ := h
      rcases h3 with rfl | h3
      · exact hlt
      · have := ih _ hlt h3; omega

theorem Plan.bit_trans (p : Plan opf sz ops dsts S0 T0 rs nf n0) : ∀ {j i k : Nat}, Nat.testBit (maskAt rs j) i = true → Nat.testBit (maskAt rs i) k = true → Nat.testBit (maskAt rs j) k = true := by
  intro j
  induction j using Nat.strongRecOn with
  | ind j ih =>
    intro i k h hk
    cases hr : rs[j]? with
    | none => unfold maskAt at h; rw [hr] at h; simp at h
    | some r =>
      obtain ⟨o, ho⟩ := p.oper hr
      rw [maskAt_at hr, p.bit ho hr] at h ⊢
      obtain ⟨e, h1, h2, hlt, h3⟩ := h
      refine ⟨e, h1, h2, hlt, .inr ?_⟩
      rcases h3 with rfl | h3
      · exact hk
      · exact ih _ hlt h3 hk

theorem dlAt_at {i : Nat} {r : Rs} (h : rs[i]? = some r) : dlAt rs i = r.dl := by unfold dlAt; rw [h]

theorem mem_of_lastOf {b : Nat} : ∀ {dl : Dl}, lastOf dl b ≠ none → ∃ x, (b, x) ∈ dl
  | [], h => absurd rfl h
  | (b', k) :: r, h => by
    rw [lastOf] at h
    cases hr : lastOf r b with
    | some y =>
      obtain ⟨x, hx⟩ := mem_of_lastOf (dl := r) (b := b) (by rw [hr]; simp)
      exact ⟨x, by simp [hx]⟩
    | none =>
      rw [hr] at h
      simp only at h
      split at h
      · rename_i e; subst e; exact ⟨k, by simp⟩
      · exact absurd rfl h

theorem Plan.key_lt (p : Plan opf sz ops dsts S0 T0 rs nf n0) {i b : Nat} {r : Rs} (hr : rs[i]? = some r) (h : lastOf r.dl b ≠ none) : b < nsOf rs nf (i + 1) := by
  obtain ⟨o, ho⟩ := p.oper hr
  obtain ⟨_, _, _, _, T, _, h6⟩ := p.good ho hr
  rcases h6 with ⟨_, _, _, hok⟩ | ⟨_, _, e, _⟩
  · unfold okDl at hok
    simp only [Bool.and_eq_true, List.all_eq_true] at hok
    obtain ⟨x, hx⟩ := mem_of_lastOf h
    exact Nat.le_of_ble_eq_true (hok.1 _ hx)
  · rw [e] at h; exact absurd rfl h

theorem Plan.seen (p : Plan opf sz ops dsts S0 T0 rs nf n0) {i b : Nat} {r : Rs} (hr : rs[i]? = some r) (h : lastOf r.dl b ≠ none) (hb : b < r.ns) : ∃ k, r.U.get b = some k := by
  obtain ⟨o, ho⟩ := p.oper hr
  obtain ⟨_, _, _, _, T, _, h6⟩ := p.good ho hr
  rcases h6 with ⟨_, _, _, hok⟩ | ⟨_, _, e, _⟩
  · unfold okDl at hok
    simp only [Bool.and_eq_true, List.all_eq_true] at hok
    have := hok.2 _ (mem_overs h hb)
    split at this
    · rename_i k hk; exact ⟨k, hk⟩
    · cases this
  · rw [e] at h; exact absurd rfl h

/-- What an operation sees. -/
theorem Plan.U_get (p : Plan opf sz ops dsts S0 T0 rs nf n0) {j b : Nat} {r : Rs} {k : Bk} (hr : rs[j]? = some r) (h : r.U.get b = some k) :
    r.U.get b = (lst (fun i => bif Nat.testBit r.mask i then lastOf (dlAt rs i) b else none) j).getD (S0.get b) := by
  obtain ⟨o, ho⟩ := p.oper hr
  have hj : j ≤ rs.length := Nat.le_of_lt (List.getElem?_eq_some_iff.1 hr).1
  obtain ⟨_, _, _, _, T, _, h6⟩ := p.good ho hr
  rcases h6 with ⟨_, hU, _, _⟩ | ⟨_, _, _, _, hU⟩
  · cases hm : usesMem o.op with
    | true =>
      have hb := hU b k h
      rw [hm] at hb
      simp only [cond_true] at hb
      rw [h, ← hb]
      exact stL_get S0 _ rs b j hj
    | false =>
      have hb := hU b k h
      rw [hm] at hb
      cases hb
  · rw [hU] at h; cases h

/-- Whoever sees a number knows whose it is. -/
theorem Plan.owner (p : Plan opf sz ops dsts S0 T0 rs nf n0) {i b : Nat} (hi : i < ops.size) (h1 : nsOf rs nf i ≤ b) (h2 : b < nsOf rs nf (i + 1)) : ∀ {c : Nat} {r : Rs} {k : Bk}, rs[c]? = some r → r.U.get b = some k → Nat.testBit r.mask i = true := by
  intro c
  induction c using Nat.strongRecOn with
  | ind c ih =>
    intro r k hr h
    have hU := p.U_get hr h
    rw [h] at hU
    have h0 : S0.get b = none := by
      cases hs : S0.get b with
      | none => rfl
      | some k0 =>
        have := p.keys0 hs
        have := p.mono (i := 0) (k := i) (by omega) (by omega)
        rw [p.start] at this
        omega
    rw [h0] at hU
    cases hl : lst (fun i => bif Nat.testBit r.mask i then lastOf (dlAt rs i) b else none) c with
    | none => rw [hl] at hU; cases hU
    | some x =>
      obtain ⟨c', hc', hx⟩ := lst_some hl
      cases hb : Nat.testBit r.mask c' with
      | false => rw [hb] at hx; cases hx
      | true =>
        rw [hb] at hx
        simp only [cond_true] at hx
        by_cases e : c' = i
        · subst e; exact hb
        · cases hr' : rs[c']? with
          | none => unfold dlAt at hx; rw [hr'] at hx; cases hx
          | some r' =>
            rw [dlAt_at hr'] at hx
            have hne : lastOf r'.dl b ≠ none := by rw [hx]; simp
            have hlt := p.key_lt hr' hne
            have hc's : c' < ops.size := by have := (List.getElem?_eq_some_iff.1 hr').1; have := p.len; omega
            have hns : b < r'.ns := by
              rw [← nsOf_at (nf := nf) hr']
              rcases Nat.lt_or_ge c' i with hh | hh
              · have := p.mono (i := c' + 1) (k := i) (by omega) (by omega); omega
              · have := p.mono (i := i + 1) (k := c') (by omega) (by omega); omega
            obtain ⟨k', hk'⟩ := p.seen hr' hne hns
            have := ih c' hc' hr' hk'
            rw [← maskAt_at hr] at hb ⊢
            rw [← maskAt_at hr'] at this
            exact p.bit_trans hb this

theorem unseen_ok {bs : List Nat} {U : Tr Bk} (h : unseen bs U = true) {b : Nat} (hb : b ∈ bs) : U.get b = none := by
  unfold unseen at h
  rw [List.all_eq_true] at h
  have := h b hb
  split at this
  · assumption
  · cases this

theorem apartFrom_ok {r : Rs} {i : Nat} : ∀ {l : List Rs}, apartFrom r i l = true → ∀ {q}, q ∈ l → Nat.testBit q.mask i = false → (∀ b ∈ overs r.ns r.dl, q.U.get b = none) ∧ (∀ b ∈ overs q.ns q.dl, r.U.get b = none)
  | [], _, q, hq, _ => by cases hq
  | x :: l, h, q, hq, hm => by
    unfold apartFrom at h
    simp only [Bool.and_eq_true, Bool.or_eq_true] at h
    rcases List.mem_cons.1 hq with rfl | hq
    · rcases h.1 with h1 | h1
      · rw [hm] at h1; cases h1
      · exact ⟨fun b hb => unseen_ok h1.1 hb, fun b hb => unseen_ok h1.2 hb⟩
    · exact apartFrom_ok h.2 hq hm

theorem apartAll_ok : ∀ {l : List Rs} {n : Nat}, apartAll n l = true → ∀ {i j : Nat} {r q : Rs}, i < j → l[i]? = some r → l[j]? = some q → Nat.testBit q.mask (n + i) = false →
    (∀ b ∈ overs r.ns r.dl, q.U.get b = none) ∧ (∀ b ∈ overs q.ns q.dl, r.U.get b = none)
  | [], n, _, i, j, r, q, _, hr, _, _ => by simp at hr
  | x :: l, n, h, i, j, r, q, hij, hr, hq, hm => by
    unfold apartAll at h
    simp only [Bool.and_eq_true] at h
    cases j with
    | zero => omega
    | succ j =>
      simp only [List.getElem?_cons_succ] at hq
      cases i with
      | zero =>
        simp only [List.getElem?_cons_zero, Option.some.injEq] at hr
        subst hr
        exact apartFrom_ok h.1 (List.mem_of_getElem? hq) hm
      | succ i =>
        simp only [List.getElem?_cons_succ] at hr
        exact apartAll_ok h.2 (by omega) hr hq (by rwa [show n + 1 + i = n + (i + 1) by omega])

theorem Plan.apart2 (p : Plan opf sz ops dsts S0 T0 rs nf n0) {i j : Nat} {r q : Rs} (hij : i < j) (hr : rs[i]? = some r) (hq : rs[j]? = some q) (hm : Nat.testBit q.mask i = false) :
    (∀ b ∈ overs r.ns r.dl, q.U.get b = none) ∧ (∀ b ∈ overs q.ns q.dl, r.U.get b = none) :=
  apartAll_ok p.apart hij hr hq (by rwa [Nat.zero_add])

/-- Two that are not ordered: what the one leaves the other does not see. -/
theorem Plan.blind (p : Plan opf sz ops dsts S0 T0 rs nf n0) {i j b : Nat} {r q : Rs} {k : Bk} (hr : rs[i]? = some r) (hq : rs[j]? = some q) (hne : i ≠ j) (h1 : Nat.testBit q.mask i = false) (h2 : Nat.testBit r.mask j = false)
    (hl : lastOf r.dl b ≠ none) (hU : q.U.get b = some k) : False := by
  have his : i < ops.size := by have := (List.getElem?_eq_some_iff.1 hr).1; have := p.len; omega
  rcases Nat.lt_or_ge b r.ns with hb | hb
  · have ho := mem_overs hl hb
    rcases Nat.lt_or_gt_of_ne hne with hlt | hgt
    · have := (p.apart2 hlt hr hq h1).1 b ho; rw [this] at hU; cases hU
    · have := (p.apart2 hgt hq hr h2).2 b ho; rw [this] at hU; cases hU
  · have := p.owner his (by rw [nsOf_at hr]; exact hb) (p.key_lt hr hl) hq hU
    rw [h1] at this; cases this
end
end Go.Ev
