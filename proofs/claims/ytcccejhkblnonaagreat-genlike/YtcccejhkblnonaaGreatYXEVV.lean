/- The laws' Row (small numbers of raw ones), for the reader: a new row of letters. -/
/- GenShapes: what is told of its letters: small numbers of a row, their powers. -/
import Derived.Test.YtcccejhkblnonaaGreatYXEVE
import Derived.Test.YtcccejhkblnonaaGreatYXM2
namespace Go.Proofs.YtcccejhkblnonaaGreat
open Go.RowKit Go.Ev
set_option linter.unusedVariables false
set_option linter.unusedSimpArgs false

/-- So many letters, from one on. -/
def letsQ : Nat → Nat → List RE
  | _, 0 => []
  | r, m + 1 => .v r :: letsQ (r + 1) m
def rowC : List RE → List AC
  | [] => []
  | q :: qs => .atom (.neg q) :: .atom (.num q) :: .atom (.den q) :: rowC qs
theorem letsQ_len : ∀ m r : Nat, (letsQ r m).length = m
  | 0, _ => rfl
  | m + 1, r => by rw [letsQ, List.length_cons, letsQ_len m]
theorem rowC_len : ∀ qs : List RE, (rowC qs).length = qs.length * 3
  | [] => rfl
  | q :: qs => by rw [rowC, List.length_cons, List.length_cons, List.length_cons, rowC_len qs, List.length_cons]; omega

theorem rowC_rel {ν : Nat → Rat} {σ : SymD} {γ : Nat → Option (List Value)} {ρ : Env} {w : World} : ∀ {qs : List RE} {L : List Value}, TriV w L (qs.map (vq ν)) → rels (DomQ true ν σ γ) ρ w (rowC qs) L
  | [], [], _ => trivial
  | q :: qs, b :: x :: y :: L, h => by
    obtain ⟨us, hu, h1, h2, h3, _⟩ := cut (avQ_rel (σ := σ) (γ := γ) (ρ := ρ) h.1)
    exact ⟨h1, h2, h3, rowC_rel h.2⟩
  | [], _ :: _, h => by
    rename_i L
    match L, h with
    | [], h => exact h.elim
    | [_], h => exact h.elim
    | _ :: _ :: _, h => exact h.elim
  | _ :: _, [], h => h.elim
  | _ :: _, [_], h => h.elim
  | _ :: _, [_, _], h => h.elim
where
  cut {ν : Nat → Rat} {σ : SymD} {γ : Nat → Option (List Value)} {ρ : Env} {w : World} {b x y : Value} {q : RE} (h : (avQ q).rel (DomQ true ν σ γ) ρ w (.agg #[b, x, y])) :
      ∃ us, us = [b, x, y] ∧ rels (DomQ true ν σ γ) ρ w [.atom (.neg q), .atom (.num q), .atom (.den q)] [b, x, y] := by
    obtain ⟨us, hu, hr⟩ := h
    obtain rfl : us = [b, x, y] := by
      have := congrArg Array.toList (Value.agg.inj hu)
      simpa using this.symm
    exact ⟨_, rfl, hr⟩

def lookN : List (Nat × Nat) → Nat → Option Nat
  | [], _ => none
  | (i, r) :: l, j => bif Nat.beq i j then some r else lookN l j
theorem lookN_ok {l : List (Nat × Nat)} {j r : Nat} (h : lookN l j = some r) : (j, r) ∈ l := by
  induction l with
  | nil => cases h
  | cons a l ih =>
    obtain ⟨i, r'⟩ := a
    unfold lookN at h
    cases hb : Nat.beq i j with
    | true =>
      rw [hb] at h
      obtain rfl := Option.some.inj h
      obtain rfl := Nat.eq_of_beq_eq_true hb
      exact .head _
    | false =>
      rw [hb] at h
      exact .tail _ (ih h)

/-- A row: the letter of its slice of raw numbers, the first of its own letters. -/
def orcRow (f : FuncId) (ls : List (Nat × Nat)) (rest : CallF) : CallF := fun g args S n => bif Nat.beq g f then (match args with
  | [.one (.atom (.sym i)), .one (.lit (.int .i64 (.ofNat m)))] => match lookN ls i with
    | some r => bif Nat.ble 1 m && Nat.ble m 100 then some (.v (.one (.slc n 0 m .blk)), [(n, some ⟨34, rowC (letsQ r m), 3, true⟩)], n + 1) else none
    | none => none
  | _ => none) else rest g args S n

theorem rowZ_lets {ν : Nat → Rat} {zs : List Int} : ∀ (m : Nat) (r : Nat) (h : ∀ j, j < m → ν (r + j) = smallQ (rawK zs j)), (letsQ r m).map (vq ν) = rowZ zs m := by
  have key : ∀ (m r : Nat), (letsQ r m).map (vq ν) = (List.range m).map fun j => ν (r + j) := by
    intro m
    induction m with
    | zero => intro r; rfl
    | succ m ih =>
      intro r
      rw [letsQ, List.map_cons, ih, List.range_succ_eq_map, List.map_cons, List.map_map]
      congr 1
      apply List.map_congr_left
      intro j _
      show ν (r + 1 + j) = ν (r + (j + 1))
      congr 1; omega
  intro m r h
  rw [key, rowZ]
  apply List.map_congr_left
  intro j hj
  exact h j (List.mem_range.1 hj)

theorem orcRow_take {f g : FuncId} {ls : List (Nat × Nat)} {rest : CallF} {args : List A1} {S : Tr Bk} {n n' : Nat} {av : AV} {dl : Dl} (h : orcRow f ls rest g args S n = some (av, dl, n')) :
    (rest g args S n = some (av, dl, n')) ∨ ∃ i m r, g = f ∧ args = [.one (.atom (.sym i)), .one (.lit (.int .i64 (Int.ofNat m)))] ∧ (i, r) ∈ ls ∧ 1 ≤ m ∧ m ≤ 100 ∧ av = .v (.one (.slc n 0 m .blk)) ∧ dl = [(n, some ⟨34, rowC (letsQ r m), 3, true⟩)] ∧ n' = n + 1 := by
  unfold orcRow at h
  cases hg : Nat.beq g f with
  | false => rw [hg] at h; exact .inl h
  | true =>
    rw [hg] at h
    simp only [cond_true] at h
    split at h
    · rename_i i m
      cases hl : lookN ls i with
      | none => rw [hl] at h; cases h
      | some r =>
        rw [hl] at h
        simp only at h
        cases hm : Nat.ble 1 m && Nat.ble m 100 with
        | false => rw [hm] at h; cases h
        | true =>
          rw [hm] at h
          simp only [cond_true, Option.some.injEq, Prod.mk.injEq] at h
          obtain ⟨rfl, rfl, rfl⟩ := h
          simp only [Bool.and_eq_true] at hm
          exact .inr ⟨i, m, r, Nat.eq_of_beq_eq_true hg, rfl, lookN_ok hl, Nat.le_of_ble_eq_true hm.1, Nat.le_of_ble_eq_true hm.2, rfl, rfl, rfl⟩
    · cases h

/-- What is in memory when a law is called. -/
def gw (w : World) : Nat → Option (List Value) := fun g => match w.heap[g]? with
  | some (.cells arr _ _) => some arr.toList
  | _ => none
theorem gw_ok {w : World} {g : Nat} {us : List Value} (h : gw w g = some us) : g < w.heap.size ∧ ∀ j v, us[j]? = some v → w.cell? ⟨g, j, none⟩ = some v := by
  unfold gw at h
  split at h
  · rename_i arr ty fz harr
    obtain rfl := Option.some.inj h
    refine ⟨(Array.getElem?_eq_some_iff.1 harr).1, fun j v hv => ?_⟩
    unfold World.cell?
    simp only [harr]
    simpa using hv
  · cases h
/-- A slice of raw numbers that came in stays. -/
theorem ns_glob {w0 w : World} {ν : Nat → Rat} {σ : SymD} {B : Nat} {ρ : Env} {S : Tr Bk} {v : Value} {zs : List Int} (h : NsV w0 v zs) (hS : SRel (DomQ true ν σ (gw w0)) B ρ w S) : NsV w v zs := by
  obtain ⟨h0, base, cap, h1, h2, h3, h4⟩ := h
  refine ⟨h0, base, cap, h1, h2, h3, fun i hi => ?_⟩
  obtain ⟨b, off, h5, h6⟩ := h4 i hi
  refine ⟨b, off, h5, ?_⟩
  unfold World.cell? at h6
  simp only at h6
  split at h6
  · rename_i c ty fz hc
    have hg : (DomQ true ν σ (gw w0)).glob b = some c.toList := by
      show gw w0 b = _
      unfold gw
      rw [hc]
    exact (hS.glob hg).2.2 (off + i) _ (by simpa using h6)
  · cases h6

theorem cxR_ok {ν : Nat → Rat} {σ : SymD} {γ : Nat → Option (List Value)} {B : Nat} {t : Tr Func} {rest : CallF} {hook : OpF} {f : FuncId} {ls : List (Nat × Nat)} (C : CxOK (DomQ true ν σ γ) B ⟨Tryz.prog, true, t.get, rest, hook⟩)
    (hrow : ∀ {w : World} {a : Value} {zs : List Int}, NsV w a zs → ∀ n : Nat, n ≤ 1000 → Calls Tryz.prog f #[a, .int .i64 n] w fun e w' => ∃ v L, e = .returned v ∧ OwnL w' w.heap.size v L n ∧ TriV w' L (rowZ zs n) ∧ Fwd w w')
    (hls : ∀ i r, (i, r) ∈ ls → ∃ zs, (∀ {ρ w S}, SRel (DomQ true ν σ γ) B ρ w S → NsV w (σ.val i) zs) ∧ ∀ j, j < 100 → ν (r + j) = smallQ (rawK zs j)) :
    CxOK (DomQ true ν σ γ) B ⟨Tryz.prog, true, t.get, orcRow f ls rest, hook⟩ where
  strict := C.strict
  tab := C.tab
  orcLe := by
    intro g xs S n av dl n' h
    rcases orcRow_take h with h | ⟨i, m, r, _, _, _, _, _, _, _, rfl⟩
    · exact C.orcLe _ _ _ _ _ _ _ h
    · omega
  orc := by
    intro g xs S n av dl n' h ρ w vs hS hB hk hf hr
    rcases orcRow_take h with h | ⟨i, m, r, rfl, rfl, hi, m1, m2, rfl, rfl, rfl⟩
    · exact C.orc h ρ w vs hS hB hk hf hr
    · obtain ⟨zs, hz, hν⟩ := hls i r hi
      match vs, hr with
      | [a, c], ⟨r1, r2, _⟩ =>
        obtain ⟨ra, rf⟩ : a = σ.val i ∧ (true = true → σ.fact i w) := r1
        subst ra
        obtain ⟨rfl, _⟩ : c = .int .i64 (Int.ofNat m) ∧ _ := r2
        refine (hrow (hz hS) m (by omega)).mono ?_
        rintro e w' ⟨v, L, rfl, hown, htri, hfw⟩
        rcases hown with ⟨rfl, h0, _⟩ | ⟨p, cap, arr, rfl, hp, harr, hsz, hle, hmx, htake, hno⟩
        · omega
        · have kp : Kept true w w' := ?_
          refine ⟨_, ρ.with n p (some cap), rfl, ⟨p, cap, by simp [Env.with], rfl, hle, hmx, by simp [Env.with]⟩, ?_⟩
          refine Tn.new (S1 := S) hS hk hf (Nat.le_trans hB hp) (fun h => h) (fun hb hl => ?_) (fun q hq _ => hfw.block q hq) hfw.os hfw.tape hfw.output kp (.inl hp) ?_
          · obtain ⟨q, e1, e2, e3⟩ := hS.at' hb
            rw [e1] at hl
            have := e3.lt
            have := Option.some.inj hl
            omega
          · refine ⟨arr, harr, ?_, (fun hh => by simp at hh), fun _ => ⟨cap, by simp [Env.with], hsz, ?_⟩⟩
            · show rels _ _ _ (rowC (letsQ r m)) (arr.toList.take (rowC (letsQ r m)).length)
              rw [rowC_len, letsQ_len, htake]
              refine rowC_rel ?_
              rw [rowZ_lets m r (fun j hj => hν j (by omega))]
              exact htri
            · intro j u hj hu _ x
              have : u ∈ arr.toList := by
                obtain ⟨hlt, he⟩ := Array.getElem?_eq_some_iff.1 hu
                rw [← he]
                simp
              exact (hno u this).2 x
          · exact ⟨hfw.size, fun _ a x h => Fwd.cell hfw h⟩
  hookLe := C.hookLe
  hook := C.hook
end Go.Proofs.YtcccejhkblnonaaGreat

namespace Go.Proofs.YtcccejhkblnonaaGreat
open Go.RowKit Go.Ev
set_option linter.unusedVariables false
set_option linter.unusedSimpArgs false

/-- Products: a number times itself is the letter of its square, and so on. -/
def gsBin : Nat → RE → RE → Option RE
  | 2, .c 1 1, .v i => some (.v i)
  | 2, .v p, .v i => bif Nat.ble i 7 then
      (bif Nat.beq p i then some (.v (102 + 10 * i)) else bif Nat.ble (102 + 10 * i) p && Nat.ble p (108 + 10 * i) then some (.v (p + 1)) else none) else none
  | _, _, _ => none
def gsFour : RE → Bool
  | .v i => Nat.ble i 99
  | _ => false
def gsD : QD := ⟨gsBin, fun _ _ => none, fun _ _ => none, fun _ _ => none, gsFour, fun _ => none, fun _ _ => none, fun _ _ => none⟩

/-- What is told of what is called. -/
def gsL (k : Nat) : List (FuncId × Ans) :=
  [(8, ansTrue), (16, ansWithin 8 k), (76, ansBin gsD 2), (86, ansRight1 gsD), (75, ansClone), (71, ansRefused gsD), (46, ansMeet gsD),
   (17, ansInt), (13, ansSame gsD), (18, ansBin gsD 2)]
def gsO (k : Nat) : CallF := orcRow 27 [(1, 0)] (orcD (gsL k))

def gsHook (P : Program) : OpF := opH (bigHook P true) (empHook P)
end Go.Proofs.YtcccejhkblnonaaGreat
