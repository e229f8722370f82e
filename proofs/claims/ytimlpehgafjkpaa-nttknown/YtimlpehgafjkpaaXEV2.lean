/- A reader of closed calls: what is written in memory. -/
import Derived.Test.YtimlpehgafjkpaaXEV1
import Derived.Maps.AppendAt
import Derived.Great.BuildSlice
namespace Go.Ev
open Go.RowKit
set_option linter.unusedVariables false
set_option linter.unusedSimpArgs false

/-- May a cell be written anew? (A limb may not: what is known by what it says may rest on it.) -/
def AC.loose : AC → Bool
  | .lit (.int .u32 _) => false
  | _ => true

theorem AC.rel.loose {M : Dom} {ρ : Env} {w : World} {c : AC} {u : Value} (h : c.rel M ρ w u) (hl : c.loose = true) : ∀ x, u ≠ .int .u32 x := by
  cases c with
  | lit v =>
    obtain ⟨rfl, _⟩ := h
    rintro x rfl
    simp [AC.loose] at hl
  | ptr b off => obtain ⟨p, h1, rfl⟩ := h; intro x; simp
  | slc b off len c => obtain ⟨p, n, h1, rfl, _⟩ := h; intro x; simp
  | atom d => exact (M.cell h).2

/-- May these be written anew? -/
def loose1 (s : Bool) (cs : List (AC)) : Bool := !s || cs.all AC.loose

/-- A piece put into a row. -/
def spl {α : Type} (l : List α) (off : Nat) (xs : List α) : List α := l.take off ++ xs ++ l.drop (off + xs.length)

theorem spl_length {α : Type} {l xs : List α} {off : Nat} (h : off + xs.length ≤ l.length) : (spl l off xs).length = l.length := by
  simp [spl]; omega

section
variable {M : Dom} {B : Nat} {ρ ρ' : Env} {w w' : World} {S S' : Tr (Bk)} {n n' : Nat}

theorem rels.spl {cs xs : List (AC)} {us vs : List Value} {off : Nat} (h : rels M ρ w cs us) (k : rels M ρ w xs vs) : rels M ρ w (spl cs off xs) (spl us off vs) := by
  unfold Ev.spl
  rw [k.length]
  exact ((h.take off).append k).append (h.drop _)

/-- What is read of a row. -/
theorem SRel.read (h : SRel M B ρ w S) {b : Nat} {k : Bk} (hb : S.get b = some k) : ∃ p arr, ρ.loc b = some p ∧ B ≤ p ∧ w.heap[p]? = some (.cells arr k.ty (0, 0)) ∧ rels M ρ w k.cells (arr.toList.take k.cells.length) ∧ k.cells.length ≤ arr.size := by
  obtain ⟨p, h1, h2, arr, h3, h4, _⟩ := h.at' hb
  refine ⟨p, arr, h1, h2, h3, h4, ?_⟩
  have := h4.length
  simp at this
  omega

theorem cell_of_row' {w : World} {p : Nat} {arr : Array Value} {t : TypeId} {fr : Nat × Nat} (h : w.heap[p]? = some (.cells arr t fr)) (j : Nat) : w.cell? ⟨p, j, none⟩ = arr[j]? := by
  simp [World.cell?, h]

/-- A piece of a row, as memory has it. -/
theorem SRel.range (h : SRel M B ρ w S) {b off len : Nat} {k : Bk} (hb : S.get b = some k) (hl : off + len ≤ k.cells.length) :
    ∃ p us, ρ.loc b = some p ∧ rels M ρ w ((k.cells.drop off).take len) us ∧ us.length = len ∧ w.rangeAt p off us := by
  obtain ⟨p, arr, h1, _, h2, h3, h4⟩ := h.read hb
  refine ⟨p, ((arr.toList.take k.cells.length).drop off).take len, h1, (h3.drop off).take len, by simp; omega, ?_⟩
  intro j v hv
  rw [cell_of_row' h2]
  rw [List.getElem?_take] at hv
  split at hv
  · rw [List.getElem?_drop, List.getElem?_take] at hv
    split at hv
    · simpa using hv
    · cases hv
  · cases hv

theorem getElem?_spl {us vs : List Value} {off j : Nat} (h : off + vs.length ≤ us.length) : (spl us off vs)[j]? = if off ≤ j ∧ j < off + vs.length then vs[j - off]? else us[j]? := by
  unfold Ev.spl
  rw [List.append_assoc, List.getElem?_append, List.length_take, Nat.min_eq_left (by omega)]
  split
  · rename_i hj
    rw [if_neg (by omega), List.getElem?_take, if_pos hj]
  · rename_i hj
    rw [List.getElem?_append]
    split
    · rw [if_pos (by omega)]
    · rw [if_neg (by omega), List.getElem?_drop]
      congr 1
      omega

/-- A row written anew in place. -/
theorem kept_setRow {s : Bool} {w : World} {p off : Nat} {arr : Array Value} {ty : TypeId} {vs : List Value} (hp : w.heap[p]? = some (.cells arr ty (0, 0))) (hfit : off + vs.length ≤ arr.size)
    (hl : s = true → ∀ j u, off ≤ j → j < off + vs.length → arr[j]? = some u → ∀ x, u ≠ .int .u32 x) : Kept s w (w.setRow p (spl arr.toList off vs).toArray) := by
  refine ⟨by simp, fun hs a x ha => ?_⟩
  by_cases hb : a.block = p
  · obtain ⟨blk, o, spot⟩ := a
    subst hb
    cases spot with
    | some s => simp [World.cell?, hp] at ha
    | none =>
      rw [cell_of_row' (setRow_heap w blk arr _ ty (0, 0) hp)]
      rw [cell_of_row' hp] at ha
      rw [List.getElem?_toArray, getElem?_spl (by simpa using hfit)]
      split
      · rename_i hj
        exact absurd rfl (hl hs o _ hj.1 hj.2 ha x)
      · simpa using ha
  · rw [cell_setRow_other w p _ a hb]; exact ha

theorem Tn.set (h : SRel M B ρ w S) (hk : ∀ {b k}, S.get b = some k → b < n) {b p off : Nat} {k : Bk} {arr : Array Value} {xs : List (AC)} {vs : List Value}
    (hb : S.get b = some k) (hp : ρ.loc b = some p) (ha : w.heap[p]? = some (.cells arr k.ty (0, 0))) (hx : rels M ρ w xs vs) (hfit : off + xs.length ≤ k.cells.length)
    (hl : loose1 M.strict ((k.cells.drop off).take xs.length) = true) :
    Tn M B ρ w S n ρ (w.setRow p (spl arr.toList off vs).toArray) (S.put b (some { k with cells := spl k.cells off xs })) n := by
  obtain ⟨p', arr', hp', hB, ha', hr, hle⟩ := h.read hb
  obtain rfl : p = p' := Option.some.inj (hp.symm.trans hp')
  obtain rfl : arr = arr' := by rw [ha] at ha'; injection ha' with e; injection e
  have hvl := hx.length
  have kp : Kept M.strict w (w.setRow p (spl arr.toList off vs).toArray) := by
    refine kept_setRow ha (by omega) fun hst j u h1 h2 hu => ?_
    have hc : (k.cells[j]?).isSome = true := by simp; omega
    obtain ⟨c, hc⟩ := Option.isSome_iff_exists.1 hc
    obtain ⟨u', hu', hcu⟩ := hr.get hc
    rw [List.getElem?_take, if_pos (by omega)] at hu'
    obtain rfl : u = u' := by
      have e : arr[j]? = some u' := by simpa using hu'
      rw [hu] at e; exact Option.some.inj e
    refine hcu.loose ?_
    unfold loose1 at hl
    rw [hst, Bool.not_true, Bool.false_or, List.all_eq_true] at hl
    refine hl c ?_
    rw [List.mem_iff_getElem?]
    refine ⟨j - off, ?_⟩
    rw [List.getElem?_take, if_pos (by omega), List.getElem?_drop, show off + (j - off) = j by omega]
    exact hc
  have hother : ∀ q, q ≠ p → (w.setRow p (spl arr.toList off vs).toArray).heap[q]? = w.heap[q]? := fun q hq => setRow_other w p q _ hq
  refine ⟨⟨?_, ?_, h.low kp.size fun q _ hq => hother q (by omega)⟩, Nat.le_refl _, fun _ _ => ⟨rfl, rfl⟩, ⟨rfl, rfl, rfl, fun q hq hn => hother q ?_, kp⟩, ?_, ?_⟩
  · intro b' k' hb'
    rw [Tr.get_put] at hb'
    split at hb'
    · rename_i e
      subst e
      obtain rfl := Option.some.inj hb'
      refine ⟨p, hp, hB, (spl arr.toList off vs).toArray, setRow_heap w p arr _ k.ty (0, 0) ha, ?_, ?_, ?_⟩
      · have e1 : (spl k.cells off xs).length = k.cells.length := spl_length hfit
        have e2 : (spl arr.toList off vs).take k.cells.length = spl (arr.toList.take k.cells.length) off vs := by
          apply List.ext_getElem?
          intro j
          rw [List.getElem?_take, getElem?_spl (by simp; omega), getElem?_spl (by simp; omega)]
          by_cases hj : j < k.cells.length
          · simp only [if_pos hj, List.getElem?_take]
          · rw [if_neg hj, if_neg (by omega), List.getElem?_take, if_neg hj]
        show rels M ρ _ (spl k.cells off xs) ((spl arr.toList off vs).toArray.toList.take (spl k.cells off xs).length)
        rw [e1]
        show rels M ρ _ _ ((spl arr.toList off vs).take k.cells.length)
        rw [e2]
        exact (hr.spl hx).mono (Env.le.refl _) kp
      · intro hg
        obtain ⟨q, hq, _, arr2, h1, h2, h3, h4⟩ := h.at' hb
        obtain rfl : p = q := Option.some.inj (hp.symm.trans hq)
        obtain rfl : arr = arr2 := by rw [ha] at h1; injection h1 with e; injection e
        have := h3 hg
        simp only [List.size_toArray]
        rw [spl_length (by simp; omega), spl_length hfit]
        simpa using this
      · intro hg
        obtain ⟨q, hq, _, arr2, h1, h2, h3, h4⟩ := h.at' hb
        obtain rfl : p = q := Option.some.inj (hp.symm.trans hq)
        obtain rfl : arr = arr2 := by rw [ha] at h1; injection h1 with e; injection e
        obtain ⟨c, hc, hs, hx⟩ := h4 hg
        refine ⟨c, hc, ?_, ?_⟩
        · simp only [List.size_toArray]
          rw [spl_length (by simp; omega)]
          simpa using hs
        · intro j u hj hu
          have e1 : (spl k.cells off xs).length = k.cells.length := spl_length hfit
          rw [e1] at hj
          rw [List.getElem?_toArray, getElem?_spl (by simp; omega), if_neg (by omega)] at hu
          exact hx j u hj (by simpa using hu)
    · rename_i e
      obtain ⟨q, h1, h2, h3⟩ := h.at' hb'
      refine ⟨q, h1, h2, h3.mono (Env.le.refl _) kp (hother q ?_)⟩
      rintro rfl
      exact e (h.inj hb' hb h1 hp)
  · intro b1 b2 k1 k2 q h1 h2 hq1 hq2
    rw [Tr.get_put] at h1 h2
    split at h1 <;> split at h2
    · omega
    · rename_i e1 e2; subst e1; exact h.inj hb h2 hq1 hq2
    · rename_i e1 e2; subst e2; exact h.inj h1 hb hq1 hq2
    · exact h.inj h1 h2 hq1 hq2
  · rintro rfl
    exact hn b k hb hp
  · intro b' k' q hb' hq
    rw [Tr.get_put] at hb'
    split at hb'
    · rename_i e; subst e; exact .inr ⟨_, k, hb, hq⟩
    · exact .inr ⟨_, k', hb', hq⟩
  · intro b' k' hb'
    rw [Tr.get_put] at hb'
    split at hb'
    · rename_i e; subst e; exact hk hb
    · exact hk hb'

/-- What 'fill' makes, part by part. -/
theorem fill_one (us : List Value) : ∀ (off m : Nat) (arr : Array Value), off + m + us.length ≤ arr.size →
    ((us.zipIdx m).foldl (fun (cs : Array Value) (x : Value × Nat) => cs.setIfInBounds (off + x.2) x.1) arr).toList = spl arr.toList (off + m) us := by
  induction us with
  | nil => intro off m arr h; simp [spl]
  | cons u us ih =>
    intro off m arr h
    simp only [List.length_cons] at h
    simp only [List.zipIdx_cons, List.foldl_cons]
    rw [ih off (m + 1) _ (by simp; omega)]
    apply List.ext_getElem?
    intro j
    rw [getElem?_spl (by simp; omega), getElem?_spl (by simp; omega)]
    simp only [Array.toList_setIfInBounds, List.length_cons, List.getElem?_set]
    by_cases h1 : j = off + m
    · subst h1
      rw [if_neg (by omega), if_pos rfl, if_pos (by simp; omega), if_pos (by omega)]
      simp
    · by_cases h2 : off + (m + 1) ≤ j ∧ j < off + (m + 1) + us.length
      · rw [if_pos h2, if_pos (by omega), show j - (off + m) = (j - (off + (m + 1))) + 1 by omega, List.getElem?_cons_succ]
      · rw [if_neg h2, if_neg (by omega), if_neg (by omega)]
end

/-- A value's cells. -/
def A1.cells : A1 → List (AC)
  | .one c => [c]
  | .agg cs => cs

theorem A1.rel.cells {M : Dom} {ρ : Env} {w : World} {x : A1} {u : Value} (h : x.rel M ρ w u) : rels M ρ w x.cells u.cells.toList := by
  cases x with
  | one c =>
    have h1 := AC.rel.oneCell h
    have e : u.cells = #[u] := by cases u <;> first | rfl | (simp [Value.oneCell'] at h1)
    rw [e]
    exact ⟨h, trivial⟩
  | agg cs => obtain ⟨us, rfl, h⟩ := h; exact h

def fillA (place : Nat → Option (Nat × Nat)) : List (AC) → List (Nat × A1) → Option (List (AC))
  | cells, [] => some cells
  | cells, (i, x) :: rest =>
    match place i with
    | none => none
    | some (off, size) => bif Nat.beq x.cells.length size && Nat.ble (off + x.cells.length) cells.length then fillA place (spl cells off x.cells) rest else none

theorem fill_rel {M : Dom} {ρ : Env} {w : World} {place : Nat → Option (Nat × Nat)} : ∀ (parts : List (Nat × A1)) (vals : List (Nat × Value)) (cells : List (AC)) (arr : Array Value) (r : List (AC)),
    parts.map (·.1) = vals.map (·.1) → rel1s M ρ w (parts.map (·.2)) (vals.map (·.2)) → rels M ρ w cells arr.toList → fillA place cells parts = some r →
    ∃ arr' : Array Value, Instr.fill place arr vals = some arr' ∧ rels M ρ w r arr'.toList := by
  intro parts
  induction parts with
  | nil =>
    intro vals cells arr r h1 h2 h3 h4
    cases vals with
    | nil => simp only [fillA, Option.some.injEq] at h4; subst h4; exact ⟨arr, rfl, h3⟩
    | cons v vs => simp at h1
  | cons p ps ih =>
    intro vals cells arr r h1 h2 h3 h4
    cases vals with
    | nil => simp at h1
    | cons v vs =>
      obtain ⟨i, x⟩ := p
      obtain ⟨i', u⟩ := v
      simp only [List.map_cons, List.cons.injEq] at h1
      obtain ⟨rfl, h1⟩ := h1
      obtain ⟨hx, h2⟩ := h2
      have hc := hx.cells
      have hlen := hc.length
      have hl3 := h3.length
      simp only [Array.length_toList] at hlen hl3
      unfold fillA at h4
      unfold Instr.fill
      cases hp : place i with
      | none => simp only [hp] at h4; cases h4
      | some os =>
        obtain ⟨off, size⟩ := os
        simp only [hp] at h4
        cases hcond : (Nat.beq x.cells.length size && Nat.ble (off + x.cells.length) cells.length) with
        | false => rw [hcond] at h4; simp at h4
        | true =>
          rw [hcond] at h4
          simp only [cond_true] at h4
          simp only [Bool.and_eq_true, Nat.ble_eq, beq_nat, decide_eq_true_eq] at hcond
          have e1 : ¬ (u.cells.size ≠ size || off + u.cells.size > arr.size) = true := by
            simp; omega
          simp only [if_neg e1]
          have e2 := fill_one u.cells.toList off 0 arr (by simp; omega)
          have e3 : (u.cells.zipIdx.foldl (fun (cs : Array Value) (x : Value × Nat) => cs.setIfInBounds (off + x.2) x.1) arr) = ((u.cells.toList.zipIdx 0).foldl (fun (cs : Array Value) (x : Value × Nat) => cs.setIfInBounds (off + x.2) x.1) arr) := by
            rw [← Array.foldl_toList]
            simp
          refine ih vs _ _ r h1 h2 ?_ h4
          have e4 : (u.cells.zipIdx.foldl (fun (cs : Array Value) (x : Value × Nat) => cs.setIfInBounds (off + x.2) x.1) arr).toList = spl arr.toList off u.cells.toList := by
            rw [e3, e2]
            simp
          have : rels M ρ w (spl cells off x.cells) (u.cells.zipIdx.foldl (fun (cs : Array Value) (x : Value × Nat) => cs.setIfInBounds (off + x.2) x.1) arr).toList := by
            rw [e4]; exact h3.spl hc
          exact this
end Go.Ev
