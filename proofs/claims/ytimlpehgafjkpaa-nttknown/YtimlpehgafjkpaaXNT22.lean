/- Own rows side by side: one grows, the others stay. -/
import Derived.Test.YtimlpehgafjkpaaXNT21
import Derived.Test.YtimlpehgafjkpaaXEV5
namespace Go.Proofs.Ytimlpehgafjkpaa
open Go.RowKit Go.Maps
set_option linter.unusedVariables false
set_option linter.unusedSimpArgs false

/-- Two rows share no block. -/
def Sep (a b : Value) : Prop := ∀ g, ¬ (a.ownBlock = some g ∧ b.ownBlock = some g)
theorem Sep.symm {a b : Value} (h : Sep a b) : Sep b a := fun g hg => h g ⟨hg.2, hg.1⟩
theorem Sep.nil (b : Value) : Sep (.slice none 0 0) b := fun g hg => by cases hg.1
theorem Own.other {w w' : World} {base : Nat} {u v : Value} {xs : List Nat} (hv : Own w base v xs) (hg : w.grownBy w' u.ownBlock) (hs : Sep v u) : Own w' base v xs := by
  refine ⟨hv.1, hv.2.kept hg ?_⟩
  cases h : v.ownBlock with
  | none => exact .inl rfl
  | some g =>
    refine .inr fun e => hs g ⟨h, ?_⟩
    rw [← e]
theorem Sep.next {w : World} {base : Nat} {u u' v : Value} {xs : List Nat} (hs : Sep u v) (hv : Own w base v xs) (hf : ∀ g, u'.ownBlock = some g → u.ownBlock = some g ∨ w.heap.size ≤ g) : Sep u' v := by
  rintro g ⟨h1, h2⟩
  rcases hf g h1 with h | h
  · exact hs g ⟨h, h2⟩
  · have := (hv.2.lt g h2).2
    omega

theorem law_appendS {w : World} {ops : Array Oper} {rest : List Oper} {o : Oper} {a : Act} {Q : Exit → Act → World → Prop} (hgd : o.guard = none) (s x : Operand)
    (ho : o.op = .call { callee := .builtin .append, args := #[s, x], argTypes := #[27, 27] })
    (base : Nat) (v : Value) (xs : List Nat) (hs : a.eval s = v) (hown : Own w base v xs) (g c cap : Nat) (hx : a.eval x = .slice (some ⟨g, 0, none⟩) 1 cap) (hc : c < 4294967296) (hg : w.cell? ⟨g, 0, none⟩ = some (.int .u32 (c : Int)))
    (hlen : xs.length ≤ 100000) (hb : base ≤ w.heap.size)
    (h : ∀ v' w', Own w' base v' (xs ++ [c]) → w.grownBy w' v.ownBlock → (∀ g, v'.ownBlock = some g → v.ownBlock = some g ∨ w.heap.size ≤ g) → wpList Try.prog ops Q rest (a.put o.dst v') w') :
    wpList Try.prog ops Q (o :: rest) a w := by
  obtain ⟨i, hi, hz0, hz1, hz2⟩ := info_parts info_u32
  have hl : (cellsOf xs).length = xs.length := by simp [cellsOf]
  have hok : Ok (xs ++ [c]) := hown.1.append (Ok.cons hc Ok.nil)
  have ecs : cellsOf (xs ++ [c]) = cellsOf xs ++ [.int .u32 (c : Int)] := by simp [cellsOf]
  have hnews : ∀ (j : Nat) (u : Value), [Value.int .u32 (c : Int)][j]? = some u → w.cell? ((⟨g, 0, none⟩ : Addr).add j) = some u := by
    intro j u hj
    cases j with
    | zero => simp at hj; subst hj; exact hg
    | succ j => simp at hj
  have h1c : ∀ u ∈ [Value.int .u32 (c : Int)], u.oneCell' = true := by intro u hu; simp at hu; subst hu; rfl
  have key : ∃ v' w', (∀ ty, (Builtin.append_ #[27, 27] ty #[v, .slice (some ⟨g, 0, none⟩) 1 cap]).run Try.prog w = .ok v' w') ∧ Own w' base v' (xs ++ [c]) ∧ w.grownBy w' v.ownBlock ∧ (∀ g, v'.ownBlock = some g → v.ownBlock = some g ∨ w.heap.size ≤ g) := by
    rcases hown.2.2 with ⟨rfl, h0⟩ | ⟨gv, cp, cur, rfl, b1, b2, b3, b4, b5, b6⟩
    · obtain rfl : xs = [] := List.eq_nil_of_length_eq_zero h0
      obtain ⟨g', cap', cur', w', e1, e2, e3, e4, e5, e6, e7⟩ := Go.Ev.append_full (P := Try.prog) (t := 27) (i := i) 27 w Try.underlying27 hi hz0 (by rw [hz1]; rfl) (by rw [hz1]; omega) (old := none) (len := 0) (xs := []) (by simp) rfl
        (a := ⟨g, 0, none⟩) (m := 1) (c := cap) (news := [.int .u32 (c : Int)]) (by rw [hz1]; rfl) hnews h1c (by omega) (by rw [hz2]; omega)
      rw [hz1] at e5 e6
      rcases e7 with ⟨arr, h7, _⟩ | ⟨h7, h8, _⟩
      · cases h7
      · subst h7
        refine ⟨_, w', fun ty => e1, ⟨hok, ?_⟩, ?_, fun g hg => .inr ?_⟩
        · refine ⟨by rw [ecs]; simp [cellsOf], .inr ⟨w.heap.size, cap', cur', rfl, hb, e4, e2, e3, e5, ?_⟩⟩
          rw [show ([] ++ [c] : List Nat).length * 1 = (0 + 1) * 1 from rfl, e6, ecs]
          rfl
        · have hf : Fwd w w' := by rw [h8]; exact (Fwd.refl w).drew.alloc _
          exact ⟨hf.os, hf.tape, hf.output, hf.size, fun k hk _ => hf.block k hk⟩
        · simp [Value.ownBlock] at hg
          omega
    · obtain ⟨g', cap', cur', w', e1, e2, e3, e4, e5, e6, e7⟩ := Go.Ev.append_full (P := Try.prog) (t := 27) (i := i) 27 w Try.underlying27 hi hz0 (by rw [hz1]; rfl) (by rw [hz1]; omega) (old := some (gv, cp, cur)) (len := xs.length) (xs := cellsOf xs) (by rw [hz1, hl]; omega)
        ⟨b2, by rw [hz1]; exact b5, b3, b4, by rw [hz1]; exact b6⟩
        (a := ⟨g, 0, none⟩) (m := 1) (c := cap) (news := [.int .u32 (c : Int)]) (by rw [hz1]; rfl) hnews h1c (by omega) (by rw [hz2]; omega)
      rw [hz1] at e5 e6
      have hlc : (xs ++ [c]).length = xs.length + 1 := by simp
      rcases e7 with ⟨arr, h7, _, h8⟩ | ⟨h7, h8, _⟩
      · simp only [Option.some.injEq, Prod.mk.injEq] at h7
        obtain ⟨rfl, rfl, rfl⟩ := h7
        refine ⟨_, w', fun ty => e1, ⟨hok, ?_⟩, ?_, fun g hg => .inl hg⟩
        · refine ⟨by rw [ecs, hlc]; simp [cellsOf], .inr ⟨gv, cp, cur', by rw [hlc], b1, e4, by rw [hlc]; exact e2, e3, e5, by rw [hlc, e6, ecs]⟩⟩
        · rw [h8]
          exact ⟨rfl, rfl, rfl, by simp [World.setRow], fun k hk he => setRow_other w gv k _ (by intro e; apply he; simp [Value.ownBlock, e])⟩
      · subst h7
        refine ⟨_, w', fun ty => e1, ⟨hok, ?_⟩, ?_, fun g hg => .inr ?_⟩
        · refine ⟨by rw [ecs, hlc]; simp [cellsOf], .inr ⟨w.heap.size, cap', cur', by rw [hlc], hb, e4, by rw [hlc]; exact e2, e3, e5, by rw [hlc, e6, ecs]⟩⟩
        · have hf : Fwd w w' := by rw [h8]; exact (Fwd.refl w).drew.alloc _
          exact ⟨hf.os, hf.tape, hf.output, hf.size, fun k hk _ => hf.block k hk⟩
        · simp [Value.ownBlock] at hg
          omega
  obtain ⟨v', w', hrun, k1, k2, k3⟩ := key
  refine wpList_plain hgd fun K hK => ?_
  unfold Oper.wp
  simp [execOp, resolve, invoke, builtin, ho, hs, hx, hrun, Result.andThen]
  exact hK _ _ (h v' w' k1 k2 k3)
end Go.Proofs.Ytimlpehgafjkpaa
