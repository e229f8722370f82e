/- The reader upon letters: what a call answers; limbs put to an empty row; lengths that are letters. -/
/- The reader upon letters: hooks; the second telling's Neg, read out. -/
import Derived.Test.YtcfhajnboamnnabGreatDoorXEVU
namespace Go.Proofs.YtcfhajnboamnnabGreatDoor
open Go.RowKit Go.Ev
set_option linter.unusedVariables false
set_option linter.unusedSimpArgs false

/-- What is read of a call is what it answers. -/
theorem told_call {M : Dom} {cx : Cx} {w : World} {f : FuncId} {xs : List A1} {vs : List Value} {k : Nat} {av : AV} {dl : Dl} {n' : Nat} (hmix : cx.P.follows .mixedOrders = true) (hcx : CxOK M w.heap.size cx)
    (hg : ∀ {g us}, M.glob g = some us → g < w.heap.size ∧ ∀ j v, us[j]? = some v → w.cell? ⟨g, j, none⟩ = some v) (hx : rel1s M ⟨fun _ => none, fun _ => none⟩ w xs vs)
    (h : evalCall cx k f xs .e 0 = some (av, dl, n')) : Calls cx.P f vs.toArray w fun e w' => ∃ v ρ', e = .returned v ∧ av.rel M ρ' w' v ∧ Below w.heap.size w w' := by
  obtain ⟨_, hc⟩ := evalCall_ok hmix hcx k _ _ _ _ _ _ _ h
  refine (hc ⟨fun _ => none, fun _ => none⟩ w vs ⟨fun hb => (by cases hb), fun hb => (by cases hb), fun h => ⟨(hg h).1, (hg h).1, (hg h).2⟩⟩ (Nat.le_refl _) (fun hb => (by cases hb)) (fun b _ _ => ⟨rfl, rfl⟩) hx).mono ?_
  rintro e w' ⟨v, ρ', rfl, hv, hT⟩
  exact ⟨v, ρ', rfl, hv, ⟨hT.fr.os, hT.fr.tape, hT.fr.output, hT.fr.kept.size, fun p hp => hT.fr.far p hp fun b k hb => by cases hb⟩⟩

/-- append([]uint32{}, n...). -/
theorem append0_run {w : World} {g : Nat} (ty : TypeId) (hg : w.heap[g]? = some (.cells #[] 65 (0, 0))) {v : Value} {n : Nat} (hv : Num w v n) (hlen : nl n ≤ 1000000) :
    ∃ v' w', (Builtin.append_ #[25, 25] ty #[.slice (some ⟨g, 0, none⟩) 0 0, v]).run Tryz.prog w = .ok v' w' ∧ Num w' v' n ∧ Below w.heap.size w w' := by
  obtain ⟨i, hi, hz0, hz1, hz2⟩ := info_parts info_u32
  have hgl : g < w.heap.size := (Array.getElem?_eq_some_iff.1 hg).1
  by_cases h0 : nl n = 0
  · have hx : (∃ c, v = .slice none 0 c) ∨ ∃ a c, v = .slice (some a) 0 c := by
      rcases hv.2 with ⟨rfl, _⟩ | ⟨b, off, cap, rfl, _⟩
      · exact .inl ⟨0, rfl⟩
      · right
        have : (lim n).length = 0 := h0
        rw [this]
        exact ⟨_, _, rfl⟩
    refine ⟨_, w, append_none_run ty w Tryz.underlying25 hi (Nat.le_refl 0) hx, ?_, Below.refl _ _⟩
    have hl : lim n = [] := List.eq_nil_of_length_eq_zero h0
    unfold Num
    rw [hl]
    exact ⟨Ok.nil, .inr ⟨g, 0, 0, rfl, Nat.le_refl _, by unfold maxLen; simp, by simp, hgl⟩⟩
  · rcases hv.2 with ⟨_, hl⟩ | ⟨b, off, cap, rfl, h1, h2, h3, h4⟩
    · exact absurd (show nl n = 0 by show (lim n).length = 0; rw [hl]; rfl) h0
    · have hcl : (cellsOf (lim n)).length = nl n := by simp [cellsOf, nl]
      obtain ⟨g', cap', cur, w', e1, e2, e3, e4, e5, e6, e7⟩ := append_full (P := Tryz.prog) (t := 25) (i := i) ty w Tryz.underlying25 hi hz0 (by rw [hz1]; rfl) (by rw [hz1]; omega) (old := some (g, 0, #[])) (len := 0) (xs := []) (by simp)
        ⟨hg, by simp, Nat.le_refl _, by unfold maxLen; omega, by simp⟩ (a := ⟨b, off, none⟩) (m := nl n) (c := cap) (news := cellsOf (lim n)) (by rw [hz1, hcl]; omega)
        (by
          intro j u hj
          have hjl : j < (lim n).length := by
            rcases Nat.lt_or_ge j (lim n).length with hlt | hge
            · exact hlt
            · simp [cellsOf, List.getElem?_eq_none hge] at hj
          have := h3 j hjl
          simp [cellsOf, hjl] at hj
          rw [show (⟨b, off, none⟩ : Addr).add j = ⟨b, off + j, none⟩ from by unfold Addr.add; split <;> simp_all, this, ← hj]
          simp [hjl])
        (by
          intro u hu
          simp only [cellsOf, List.mem_map] at hu
          obtain ⟨x, _, rfl⟩ := hu; rfl)
        (by omega) (by rw [hz2]; omega)
      rcases e7 with ⟨arr, he, _, _⟩ | ⟨rfl, rfl, _⟩
      · simp only [Option.some.injEq, Prod.mk.injEq] at he
        omega
      · have hf : Fwd w (w.drew.alloc (.cells cur 65)) := (Fwd.refl w).drew.alloc _
        refine ⟨_, _, e1, ⟨hv.1, .inr ⟨w.heap.size, 0, cap', ?_, ?_, e3, ?_, ?_⟩⟩, hf⟩
        · simp [nl]
        · simpa [nl] using e2
        · intro j hj
          have hr : cur[j]? = some (.int .u32 (((lim n).getD j 0 : Nat) : Int)) := by
            have h6 : cur.toList.take ((0 + nl n) * i.size) = [] ++ cellsOf (lim n) := e6
            rw [hz1, List.nil_append] at h6
            have := congrArg (fun l => l[j]?) h6
            rw [List.getElem?_take, if_pos (by show j < (0 + (lim n).length) * 1; omega)] at this
            simpa [cellsOf, hj] using this
          simp only [World.cell?, e4, Nat.zero_add]
          exact hr
        · simp
end Go.Proofs.YtcfhajnboamnnabGreatDoor

namespace Go.Proofs.YtcfhajnboamnnabGreatDoor
open Go.RowKit Go.Ev
set_option linter.unusedVariables false
set_option linter.unusedSimpArgs false

/-- Lengths that are letters; what is known of letters against numbers. -/
def symHook (P : Program) (ln : At → Option Nat) (cm : Nat → Int → BinOp → Option Bool) : OpF := fun ev S n o => match o.op with
  | .call c => match c.callee, c.args.toList, c.argTypes.toList with
    | .builtin .len, [x], [t] => match ev x, P.underlying t with
      | some (.v (.one (.atom d))), some (.slice _) => match ln d with
        | some j => some (.v (.one (.atom (.sym j))), [], n)
        | none => none
      | _, _ => none
    | _, _, _ => none
  | .binOp b t x y _ => match ev x, ev y with
    | some (.v (.one (.atom (.sym j)))), some (.v (.one (.lit (.int .i64 m)))) => match cm j m b with
      | some r => some (avB r, [], n)
      | none => none
    | _, _ => none
  | _ => none
theorem symHook_le (P : Program) (ln : At → Option Nat) (cm : Nat → Int → BinOp → Option Bool) : OpLe (symHook P ln cm) := by
  intro S n n' ev o av dl h
  unfold symHook at h
  repeat' split at h
  all_goals first
    | (cases h; done)
    | (simp only [Option.some.injEq, Prod.mk.injEq] at h; obtain ⟨_, _, rfl⟩ := h; exact Nat.le_refl _)
theorem symHook_ok {st : Bool} {ν : Nat → Rat} {σ : SymD} {γ : Nat → Option (List Value)} {B : Nat} (P : Program) {ln : At → Option Nat} {cm : Nat → Int → BinOp → Option Bool}
    (hl : ∀ {d j} {w : World} {u : Value}, ln d = some j → relQ st ν σ w d u → ∃ a k c, u = .slice a k c ∧ σ.val j = .int .i64 ((k : Nat) : Int) ∧ (st = true → σ.fact j w)) (hc : ∀ {j m b r}, cm j m b = some r → ∃ z, σ.val j = .int .i64 z ∧ ∀ t, binOp b t (.int .i64 z) (.int .i64 m) = pure (.bool r)) :
    OpOK (DomQ st ν σ γ) B P (symHook P ln cm) := by
  intro ρ w S n n' ev a o av dl he hS hB hk hf h next Q hn
  unfold symHook at h
  split at h
  · rename_i c hop
    split at h
    · rename_i x t hcc ha ht
      split at h
      · rename_i d e hx hte
        split at h
        · rename_i j hd
          simp only [Option.some.injEq, Prod.mk.injEq] at h
          obtain ⟨rfl, rfl, rfl⟩ := h
          obtain ⟨ba, k, cp, hu, hσ, hfa⟩ := hl (w := w) hd (he _ _ hx)
          obtain ⟨callee, args, argTypes⟩ := c
          simp only at hcc ha ht
          subst hcc
          obtain rfl : args = #[x] := by cases args; simp at ha; simp [ha]
          obtain rfl : argTypes = #[t] := by cases argTypes; simp at ht; simp [ht]
          have hlr : (Builtin.len_ #[t] o.type #[a.eval x]).run P w = .ok (σ.val j) w := by
            rw [hu, hσ]
            simp [Builtin.len_, run_underlying hte, goInt]
          have hrun : (execOp a.eval o).run P w = .ok (.value (σ.val j)) w := by
            unfold execOp
            rw [hop]
            simp only [resolve, Sem.run_bind, Sem.run_pure, Result.andThen_ok, invoke, builtin]
            simp [hlr]
          unfold Oper.wp
          rw [hrun]
          exact hn _ w ρ ⟨rfl, hfa⟩ (Tn.refl hS n hk)
        · cases h
      · cases h
    · cases h
  · rename_i b t x y yt hop
    split at h
    · rename_i j m hx hy
      split at h
      · rename_i r hr
        simp only [Option.some.injEq, Prod.mk.injEq] at h
        obtain ⟨rfl, rfl, rfl⟩ := h
        obtain ⟨z, hz, hbin⟩ := hc hr
        have hxv : a.eval x = .int .i64 z := (he _ _ hx).1.trans hz
        have hyv : a.eval y = .int .i64 m := (he _ _ hy).1
        have hrun : (execOp a.eval o).run P w = .ok (.value (.bool r)) w := by
          unfold execOp
          rw [hop]
          simp only [hxv, hyv, eqGuard_ints, hbin]
          rfl
        unfold Oper.wp
        rw [hrun]
        exact hn _ w ρ (avB_rel r) (Tn.refl hS n hk)
      · cases h
    · cases h
  · cases h

/-- Limbs put to an empty row. -/
def app0Hook : OpF := fun ev S n o => match o.op with
  | .call c => match c.callee, c.args.toList, c.argTypes.toList with
    | .builtin .append, [s, x], [t, t'] => bif Nat.beq t 25 && Nat.beq t' 25 then
        (match ev s with
        | some (.v (.one (.slc b 0 0 (.known 0)))) => match S.get b with
          | some k => bif (Nat.beq k.ty 65 && !k.grown) && Nat.beq k.cells.length 0 then
              (match ev x with
              | some (.v (.one (.atom (.num q)))) => bif okQ q then some (.v (.one (.atom (.num q))), [], n) else none
              | some (.v (.one (.atom (.den q)))) => bif okQ q then some (.v (.one (.atom (.den q))), [], n) else none
              | _ => none) else none
          | none => none
        | _ => none) else none
    | _, _, _ => none
  | _ => none
theorem app0_take {ev : Operand → Option AV} {S : Tr Bk} {n n' : Nat} {o : Oper} {av : AV} {dl : Dl} (h : app0Hook ev S n o = some (av, dl, n')) : dl = [] ∧ n' = n ∧ ∃ s x b k q, o.op = .call { callee := .builtin .append, args := #[s, x], argTypes := #[25, 25] } ∧ ev s = some (.v (.one (.slc b 0 0 (.known 0)))) ∧ S.get b = some k ∧ k.ty = 65 ∧ k.grown = false ∧ k.cells.length = 0 ∧ okQ q = true ∧
    ((ev x = some (.v (.one (.atom (.num q)))) ∧ av = .v (.one (.atom (.num q)))) ∨ (ev x = some (.v (.one (.atom (.den q)))) ∧ av = .v (.one (.atom (.den q))))) := by
  unfold app0Hook at h
  split at h
  · rename_i c hop
    split at h
    · rename_i s x t t' hc ha ht
      obtain ⟨callee, args, argTypes⟩ := c
      simp only at hc ha ht
      subst hc
      obtain rfl : args = #[s, x] := by cases args; simp at ha; simp [ha]
      obtain rfl : argTypes = #[t, t'] := by cases argTypes; simp at ht; simp [ht]
      cases hb : Nat.beq t 25 && Nat.beq t' 25 with
      | false => rw [hb] at h; cases h
      | true =>
        rw [hb] at h
        simp only [cond_true] at h
        simp only [Bool.and_eq_true] at hb
        obtain rfl := Nat.eq_of_beq_eq_true hb.1
        obtain rfl := Nat.eq_of_beq_eq_true hb.2
        split at h
        · rename_i b hs
          split at h
          · rename_i k hk
            cases hb2 : (Nat.beq k.ty 65 && !k.grown) && Nat.beq k.cells.length 0 with
            | false => rw [hb2] at h; cases h
            | true =>
              rw [hb2] at h
              simp only [cond_true] at h
              simp only [Bool.and_eq_true, Bool.not_eq_true'] at hb2
              obtain ⟨⟨k1, k2⟩, k3⟩ := hb2
              split at h
              · rename_i q hx
                cases hq : okQ q with
                | false => rw [hq] at h; cases h
                | true =>
                  rw [hq] at h
                  simp only [cond_true, Option.some.injEq, Prod.mk.injEq] at h
                  obtain ⟨rfl, rfl, rfl⟩ := h
                  exact ⟨rfl, rfl, s, x, b, k, q, hop, hs, hk, Nat.eq_of_beq_eq_true k1, k2, Nat.eq_of_beq_eq_true k3, hq, .inl ⟨hx, rfl⟩⟩
              · rename_i q hx
                cases hq : okQ q with
                | false => rw [hq] at h; cases h
                | true =>
                  rw [hq] at h
                  simp only [cond_true, Option.some.injEq, Prod.mk.injEq] at h
                  obtain ⟨rfl, rfl, rfl⟩ := h
                  exact ⟨rfl, rfl, s, x, b, k, q, hop, hs, hk, Nat.eq_of_beq_eq_true k1, k2, Nat.eq_of_beq_eq_true k3, hq, .inr ⟨hx, rfl⟩⟩
              · cases h
          · cases h
        · cases h
    · cases h
  · cases h
theorem app0Hook_le : OpLe app0Hook := fun h => Nat.le_of_eq (app0_take h).2.1.symm
theorem app0Hook_ok {st : Bool} {ν : Nat → Rat} {σ : SymD} {γ : Nat → Option (List Value)} {B : Nat} (hν : Sized ν) : OpOK (DomQ st ν σ γ) B Tryz.prog app0Hook := by
  intro ρ w S n n' ev a o av dl he hS hB hk hf h next Q hn
  obtain ⟨rfl, rfl, s, x, b, k, q, hop, hs, hkb, k1, k2, k3, hq, hx⟩ := app0_take h
  obtain ⟨p, hp, hBp, arr, ha, hr, hsz, _⟩ := hS.at' hkb
  have h0 : arr = #[] := by
    have := hsz k2
    rw [k3] at this
    exact Array.eq_empty_of_size_eq_zero this
  rw [h0, k1] at ha
  obtain ⟨p', cap, hp', hsv, _, _, hcap⟩ := he _ _ hs
  obtain rfl := Option.some.inj (hp.symm.trans hp')
  obtain rfl : cap = 0 := hcap
  have hb := okQ_nr hν hq
  have go : ∀ {m : Nat}, Num w (a.eval x) m → nl m ≤ 1000000 → (∀ {v : Value} {w' : World}, Num w' v m → av.rel (DomQ st ν σ γ) ρ w' v) → o.wp Tryz.prog a w next Q := by
    intro m hm hl hav
    obtain ⟨v', w', hrun, hv', hbel⟩ := append0_run o.type ha hm hl
    have hr : (execOp a.eval o).run Tryz.prog w = .ok (.value v') w' := by
      unfold execOp
      rw [hop]
      simp only [resolve, Sem.run_bind, Sem.run_pure, Result.andThen_ok, invoke, builtin]
      simp [hsv, hrun]
    unfold Oper.wp
    rw [hr]
    exact hn _ w' ρ (hav hv') (tn_below hbel hS hk)
  rcases hx with ⟨hx, rfl⟩ | ⟨hx, rfl⟩
  · have hr := he _ _ hx
    have hr' : st = true ∧ Num w (a.eval x) (vq ν q).num.natAbs := hr
    exact go hr'.2 (Nat.le_trans (nr_num _) (Nat.le_trans hb (by omega))) (fun hv => ⟨hr'.1, hv⟩)
  · have hr := he _ _ hx
    have hr' : st = true ∧ Num w (a.eval x) (vq ν q).den := hr
    exact go hr'.2 (Nat.le_trans (nr_den _) (Nat.le_trans hb (by omega))) (fun hv => ⟨hr'.1, hv⟩)

/-- A letter is itself. -/
def symAt : Option AV → Option Nat
  | some (.v (.one (.atom (.sym i)))) => some i
  | _ => none
theorem symAt_ok {x : Option AV} {i : Nat} (h : symAt x = some i) : x = some (.v (.one (.atom (.sym i)))) := by
  unfold symAt at h
  split at h
  · obtain rfl := Option.some.inj h; rfl
  · cases h
def isNeq : BinOp → Bool
  | .neq => true
  | _ => false
theorem isNeq_ok {b : BinOp} (h : isNeq b = true) : b = .neq := by cases b <;> first | rfl | cases h
def isBI : Option TypeDesc → Bool
  | some .bool => true
  | _ => false
def eqHook (P : Program) (bo io : Nat → Bool) : OpF := fun ev S n o => match o.op with
  | .binOp b t x y _ => bif isNeq b then (match symAt (ev x) with
    | some i => match symAt (ev y) with
      | some j => bif Nat.beq i j && ((bo i && isBI (P.underlying t)) || io i) then some (avB false, [], n) else none
      | none => none
    | none => none) else none
  | _ => none
theorem eqHook_take {P : Program} {bo io : Nat → Bool} {ev : Operand → Option AV} {S : Tr Bk} {n n' : Nat} {o : Oper} {av : AV} {dl : Dl} (h : eqHook P bo io ev S n o = some (av, dl, n')) : dl = [] ∧ n' = n ∧ av = avB false ∧ ∃ t x y yt i, o.op = .binOp .neq t x y yt ∧ ev x = some (.v (.one (.atom (.sym i)))) ∧ ev y = some (.v (.one (.atom (.sym i)))) ∧ ((bo i = true ∧ P.underlying t = some .bool) ∨ io i = true) := by
  unfold eqHook at h
  split at h
  · rename_i b t x y yt hop
    cases hb : isNeq b with
    | false => rw [hb] at h; cases h
    | true =>
      rw [hb] at h
      simp only [cond_true] at h
      obtain rfl := isNeq_ok hb
      cases hx : symAt (ev x) with
      | none => rw [hx] at h; cases h
      | some i =>
        rw [hx] at h
        cases hy : symAt (ev y) with
        | none => rw [hy] at h; cases h
        | some j =>
          rw [hy] at h
          simp only at h
          cases hij : Nat.beq i j && ((bo i && isBI (P.underlying t)) || io i) with
          | false => rw [hij] at h; cases h
          | true =>
            rw [hij] at h
            simp only [cond_true, Option.some.injEq, Prod.mk.injEq] at h
            obtain ⟨rfl, rfl, rfl⟩ := h
            simp only [Bool.and_eq_true, Bool.or_eq_true] at hij
            obtain rfl := Nat.eq_of_beq_eq_true hij.1
            refine ⟨rfl, rfl, rfl, t, x, y, yt, i, hop, symAt_ok hx, symAt_ok hy, ?_⟩
            rcases hij.2 with ⟨h1, h2⟩ | h2
            · unfold isBI at h2
              split at h2
              · exact .inl ⟨h1, by assumption⟩
              · cases h2
            · exact .inr h2
  · cases h
theorem eqHook_le {P : Program} {bo io : Nat → Bool} : OpLe (eqHook P bo io) := fun h => Nat.le_of_eq (eqHook_take h).2.1.symm
theorem neq_self (P : Program) (w : World) (t : TypeId) (x y : Operand) (u : Value) (hu : ((∃ b, u = .bool b) ∧ P.underlying t = some .bool) ∨ (∃ z, u = .int .i64 z)) : (do eqGuard .neq t x y u u; binOp .neq t u u : Sem Value).run P w = .ok (.bool false) w := by
  rcases hu with ⟨⟨b, rfl⟩, ht⟩ | ⟨z, rfl⟩
  · have hg : eqGuard .neq t x y (.bool b) (.bool b) = pure () := rfl
    rw [hg]
    have he := run_equal_bool (P := P) (w := w) t b b ht
    simp [binOp, he]
  · have hb : binOp .neq t (.int .i64 z) (.int .i64 z) = pure (.bool false) := intBin_ok (by simp [intBin, sameKind, eqI_eq]) t
    rw [hb, eqGuard_ints]
    rfl
theorem eqHook_ok {st : Bool} {ν : Nat → Rat} {σ : SymD} {γ : Nat → Option (List Value)} {B : Nat} (P : Program) {bo io : Nat → Bool} (hb' : ∀ i, bo i = true → ∃ b, σ.val i = .bool b) (hi' : ∀ i, io i = true → ∃ z, σ.val i = .int .i64 z) : OpOK (DomQ st ν σ γ) B P (eqHook P bo io) := by
  intro ρ w S n n' ev a o av dl he hS hB hk hf h next Q hn
  obtain ⟨rfl, rfl, rfl, t, x, y, yt, i, hop, hx, hy, hi⟩ := eqHook_take h
  have hxv : a.eval x = σ.val i := (he _ _ hx).1
  have hyv : a.eval y = σ.val i := (he _ _ hy).1
  have hrun : (execOp a.eval o).run P w = .ok (.value (.bool false)) w := by
    unfold execOp
    rw [hop]
    simp only [hxv, hyv]
    refine wrapV ?_
    exact neq_self P w t x y _ (by
      rcases hi with ⟨h1, h2⟩ | h2
      · exact .inl ⟨hb' i h1, h2⟩
      · exact .inr (hi' i h2))
  unfold Oper.wp
  rw [hrun]
  exact hn _ w ρ (avB_rel _) (Tn.refl hS _ hk)
end Go.Proofs.YtcfhajnboamnnabGreatDoor
