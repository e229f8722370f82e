/- A row that the call itself owns, with room to grow ('Own'); contract of nat's appendDigit. -/
import Derived.Test.YtimlpehgafjkpaaKC
namespace Go.Proofs.Ytimlpehgafjkpaa
open Go.RowKit
set_option linter.unusedVariables false

/-- The slice v reads as xs and its row, from block base on, is the call's own. -/
def Own (w : World) (base : Nat) (v : Value) (xs : List Nat) : Prop := Ok xs ∧ w.ownsRow base 22 1 v xs.length (cellsOf xs)

theorem Own.rd {w : World} {base : Nat} {v : Value} {xs : List Nat} (h : Own w base v xs) : Rd w v xs := ownsRow_rd h.1 h.2
theorem Own.nil (w : World) (base : Nat) : Own w base (.slice none 0 0) [] := ⟨Ok.nil, World.ownsRow_nil _ _ _ _⟩
theorem Own.at {w : World} {base : Nat} {v : Value} {xs : List Nat} (h : Own w base v xs) (h0 : 0 < xs.length) : ∃ g cap, v = .slice (some ⟨g, 0, none⟩) xs.length cap ∧ base ≤ g ∧ xs.length ≤ cap ∧ cap ≤ maxLen := by
  rcases h.2.2 with ⟨_, e⟩ | ⟨g, cap, cur, e, h1, h2, h3, h4, _⟩
  · omega
  · exact ⟨g, cap, e, h1, h3, h4⟩
theorem Own.parts {w : World} {base : Nat} {v : Value} {xs : List Nat} (h : Own w base v xs) : ∃ ao cap, v = .slice ao xs.length cap ∧ xs.length ≤ cap ∧ cap ≤ maxLen ∧ ∀ g, v.ownBlock = some g → base ≤ g := by
  rcases h.2.2 with ⟨rfl, e⟩ | ⟨g, cap, cur, rfl, h1, h2, h3, h4, _⟩
  · exact ⟨none, 0, by rw [e], by omega, by simp, by simp [Value.ownBlock]⟩
  · exact ⟨_, cap, rfl, h3, h4, by intro g' hg; simp [Value.ownBlock] at hg; omega⟩
theorem Own.cell {w : World} {base g n cap : Nat} {xs : List Nat} (h : Own w base (.slice (some ⟨g, 0, none⟩) n cap) xs) (k : Nat) (hk : k < xs.length) : w.cell? ⟨g, k, none⟩ = some (.int .u32 ((xs.getD k 0 : Nat) : Int)) ∧ w.frozen? ⟨g, k, none⟩ = false := by
  constructor
  · rcases h.rd.2 with ⟨e, _⟩ | ⟨b, off, c, e, _, _, h3, _⟩
    · cases e
    · cases e
      have := h3 k hk
      rwa [Nat.zero_add] at this
  · rcases h.2.2 with ⟨e, _⟩ | ⟨g', cap', cur, e, h1, h2, _⟩
    · cases e
    · cases e
      simp [World.frozen?, h2]
theorem Own.set {w : World} {base g n cap : Nat} {xs : List Nat} (h : Own w base (.slice (some ⟨g, 0, none⟩) n cap) xs) (k : Nat) (x : Nat) (hx : x < 4294967296) : Own (w.setCell ⟨g, k, none⟩ (.int .u32 (x : Int))) base (.slice (some ⟨g, 0, none⟩) n cap) (xs.set k x) := by
  refine ⟨h.1.set k x hx, ?_⟩
  rcases h.2 with ⟨hl, ⟨e, _⟩ | ⟨g', cap', cur, e, h1, h2, h3, h4, h5, h6⟩⟩
  · cases e
  · cases e
    refine ⟨by simp [cellsOf], .inr ⟨g, cap, cur.set! k (.int .u32 (x : Int)), by rw [set_len], h1, ?_, by rw [set_len]; exact h3, h4, by simp [h5], ?_⟩⟩
    · simp only [World.setCell, Array.getElem?_modify, if_true, h2, Option.map_some]
      simp
    · rw [set_len]
      simp only [Array.set!_eq_setIfInBounds, Array.toList_setIfInBounds]
      rw [List.take_set, h6]
      simp [cellsOf, List.map_set]
theorem Own.alloc {w : World} {base : Nat} {v : Value} {xs : List Nat} (h : Own w base v xs) (o : Obj) : Own (w.alloc o) base v xs := ⟨h.1, h.2.alloc o⟩
theorem Own.num {w : World} {base : Nat} {v : Value} {n : Nat} (h : Own w base v (lim n)) : Num w v n := h.rd

/-- append(a, x): one limb more. -/
theorem law_append1 {w : World} {ops : Array Oper} {rest : List Oper} {o : Oper} {a : Act} {Q : Exit → Act → World → Prop} (hgd : o.guard = none) (s x : Operand)
    (ho : o.op = .call { callee := .builtin .append, args := #[s, x], argTypes := #[27, 27] })
    (base : Nat) (v : Value) (xs : List Nat) (hs : a.eval s = v) (hown : Own w base v xs) (g c cap : Nat) (hx : a.eval x = .slice (some ⟨g, 0, none⟩) 1 cap) (hc : c < 4294967296) (hg : w.cell? ⟨g, 0, none⟩ = some (.int .u32 (c : Int)))
    (hlen : xs.length ≤ 1000000000) (hb : base ≤ w.heap.size)
    (h : ∀ v' w', Own w' base v' (xs ++ [c]) → Below base w w' → wpList Try.prog ops Q rest (a.put o.dst v') w') :
    wpList Try.prog ops Q (o :: rest) a w := by
  obtain ⟨i, hi, hz0, hz1, hz2⟩ := info_parts info_u32
  refine wpList_append_own w hgd s x 27 ho base 22 i (.int .u32 0) 1 4 Try.underlying27 hi hz0 hz1 hz2 rfl (by decide) v xs.length (cellsOf xs) hs hown.2 ⟨g, 0, none⟩ 1 cap [.int .u32 (c : Int)] hx (by simp) ?_ ?_
    (le_maxLen (by omega)) (by omega) hb ?_
  · intro j u hj
    cases j with
    | zero => simp at hj; subst hj; exact hg
    | succ j => simp at hj
  · intro u hu; simp at hu; subst hu; rfl
  · intro v' w' ho' hgr hnil
    refine h v' w' ⟨hown.1.append (Ok.cons hc Ok.nil), ?_⟩ (Below.grown (Below.refl _ _) hgr hb (fun k hk => (hown.2.lt k hk).1))
    have e : cellsOf (xs ++ [c]) = cellsOf xs ++ [.int .u32 (c : Int)] := by simp [cellsOf]
    rw [e, List.length_append]
    exact ho'

/-- Limbs as many as the number has are the number's. -/
theorem lim_of_len {zs : List Nat} (hok : Ok zs) (h : zs.length ≤ nl (val zs)) : zs = lim (val zs) := by
  have e := take_nl hok
  rw [List.drop_eq_nil_of_le h, List.append_nil] at e
  exact e

theorem digit_len {n d : Nat} {zs : List Nat} (hok : Ok zs) (hl : zs.length = nl n) (hv : val zs = 10 * n + d) : zs = lim (10 * n + d) := by
  have := lim_of_len hok (by rw [hl, hv]; exact nl_mono (by omega))
  rwa [hv] at this
theorem digit_more {n d c : Nat} {zs : List Nat} (hok : Ok zs) (hl : zs.length = nl n) (hc : 0 < c) (hc2 : c < 4294967296) (hv : val zs + c * 4294967296 ^ nl n = 10 * n + d) : zs ++ [c] = lim (10 * n + d) := by
  have hv2 : val (zs ++ [c]) = 10 * n + d := by
    rw [val_append, hl, ← hv]; simp only [val, Nat.mul_zero, Nat.add_zero]; rw [Nat.mul_comm c]
  have h1 : 4294967296 ^ nl n ≤ 10 * n + d := by
    have : 1 * 4294967296 ^ nl n ≤ c * 4294967296 ^ nl n := Nat.mul_le_mul_right _ hc
    generalize 4294967296 ^ nl n = P at *
    omega
  have h2 : nl n + 1 ≤ nl (10 * n + d) := by
    rcases Nat.lt_or_ge (nl (10 * n + d)) (nl n + 1) with h | h
    · have := (nl_le_iff (10 * n + d) (nl n)).1 (by omega)
      generalize 4294967296 ^ nl n = P at *
      omega
    · exact h
  have := lim_of_len (hok.append (Ok.cons hc2 Ok.nil)) (by rw [hv2, List.length_append, hl]; exact h2)
  rwa [hv2] at this

end Go.Proofs.Ytimlpehgafjkpaa
