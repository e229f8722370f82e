/- Four own rows side by side. -/
import Derived.Test.YtimlpehgafjkpaaXNT22
namespace Go.Proofs.Ytimlpehgafjkpaa
open Go.RowKit Go.Maps
set_option linter.unusedVariables false
set_option linter.unusedSimpArgs false

def Four (w : World) (base : Nat) (u v x y : Value) (U V X Y : List Nat) : Prop :=
  (Own w base u U ∧ Own w base v V ∧ Own w base x X ∧ Own w base y Y) ∧ (Sep u v ∧ Sep u x ∧ Sep u y) ∧ Sep v x ∧ Sep v y ∧ Sep x y
theorem Four.nil (w : World) (base : Nat) : Four w base (.slice none 0 0) (.slice none 0 0) (.slice none 0 0) (.slice none 0 0) [] [] [] [] :=
  ⟨⟨Own.nil _ _, Own.nil _ _, Own.nil _ _, Own.nil _ _⟩, ⟨Sep.nil _, Sep.nil _, Sep.nil _⟩, Sep.nil _, Sep.nil _, Sep.nil _⟩
theorem Four.alloc {w : World} {base : Nat} {u v x y : Value} {U V X Y : List Nat} (h : Four w base u v x y U V X Y) (o : Obj) : Four (w.alloc o) base u v x y U V X Y :=
  ⟨⟨h.1.1.alloc o, h.1.2.1.alloc o, h.1.2.2.1.alloc o, h.1.2.2.2.alloc o⟩, h.2⟩
theorem Four.step {w w' : World} {base : Nat} {u v x y u' : Value} {U V X Y U' : List Nat} (h : Four w base u v x y U V X Y) (ho : Own w' base u' U') (hg : w.grownBy w' u.ownBlock) (hf : ∀ g, u'.ownBlock = some g → u.ownBlock = some g ∨ w.heap.size ≤ g) :
    Four w' base v x y u' V X Y U' := by
  obtain ⟨⟨a1, a2, a3, a4⟩, ⟨s1, s2, s3⟩, s4, s5, s6⟩ := h
  exact ⟨⟨a2.other hg s1.symm, a3.other hg s2.symm, a4.other hg s3.symm, ho⟩, ⟨s4, s5, (s1.next a2 hf).symm⟩, s6, (s2.next a3 hf).symm, (s3.next a4 hf).symm⟩

/-- An append to the first of four: the box that it reads was made just before. -/
theorem law_grow4 {w0 : World} {ops : Array Oper} {rest : List Oper} {o : Oper} {a : Act} {Q : Exit → Act → World → Prop} (hgd : o.guard = none) (s t : Operand)
    (ho : o.op = .call { callee := .builtin .append, args := #[s, t], argTypes := #[27, 27] })
    {base : Nat} {u v x y : Value} {U V X Y : List Nat} {c cap : Nat} {W0 : World} (h4 : Four w0 base u v x y U V X Y) (hF : Below base W0 w0) (hb : base ≤ w0.heap.size) (hs : a.eval s = u) (hx : a.eval t = .slice (some ⟨w0.heap.size, 0, none⟩) 1 cap) (hc : c < 4294967296) (hlen : U.length ≤ 100000)
    (h : ∀ u' w', Four w' base v x y u' V X Y (U ++ [c]) → Below base W0 w' → base ≤ w'.heap.size → wpList Try.prog ops Q rest (a.put o.dst u') w') :
    wpList Try.prog ops Q (o :: rest) a (w0.alloc (.cells #[.int .u32 (c : Int)] 22)) := by
  have h5 := h4.alloc (.cells #[.int .u32 (c : Int)] 22)
  obtain ⟨m1, m2, m3⟩ := Own.more h4.1.1 hb c
  refine law_appendS hgd s t ho base u U hs h5.1.1 w0.heap.size c cap hx hc m2.out hlen m3.out fun u' w' k1 k2 k3 => ?_
  exact h u' w' (h5.step k1 k2 k3) (Below.grown (Below.alloc hF hb _) k2 m3.out (fun k hk => (h5.1.1.2.lt k hk).1)) (by have := k2.size; have := m3.out; omega)
end Go.Proofs.Ytimlpehgafjkpaa
