/- RatSums: of any numbers the same, less or greater, the negative, the size, sums, differences, products, quotients are the document's: the law's walk, by the reader, upon letters. -/
import Derived.Test.YtnknbeinnfhomaaGreatDoorXRSB
namespace Go.Proofs.YtnknbeinnfhomaaGreatDoor
open Go.RowKit Go.Ev
set_option linter.unusedVariables false
set_option linter.unusedSimpArgs false

theorem cmp2_num {w : World} {a b : Value} {p q : Rat} (ha : RV w a p) (hb : RV w b q) (bp : nr p ≤ 5000) (bq : nr q ≤ 5000) :
    Calls Tryz.prog 13 #[a, b] w fun e w' => e = .returned (.int .i64 (cmpQ p q)) ∧ Fwd w w' := by
  rw [← cmpS_eq]
  exact cmp2_any ha.rw' (nr_le bp).1 (nr_le bp).2 hb.rw' (nr_le bq).1 (nr_le bq).2

/-- The letters' numbers. -/
def rsV (A B C D : Rat) : Nat → Rat
  | 0 => A | 1 => B | 2 => C | 3 => D
  | 10 => A + B | 11 => A - B | 12 => A * B | 13 => A / B
  | 14 => C + D | 15 => C - D | 16 => C * D | 17 => C / D
  | 18 => A + A | 20 => A * A | 23 => 0 - B | 30 => 0 - A | 31 => 0 - C | 32 => 0 - D
  | 33 => absQ A | 34 => absQ C
  | _ => 0

theorem rd_kept {w w' : World} {v : Value} {xs : List Nat} (h : Rd w v xs) (k : Kept true w w') : Rd w' v xs := by
  refine ⟨h.1, ?_⟩
  rcases h.2 with h | ⟨b, off, cap, hv, h1, h2, h3, h4⟩
  · exact .inl h
  · exact .inr ⟨b, off, cap, hv, h1, h2, fun i hi => k.cell rfl _ _ (h3 i hi), Nat.lt_of_lt_of_le h4 k.size⟩
theorem rd_cell {w : World} {v : Value} {xs : List Nat} (h : Rd w v xs) : v.oneCell' = true ∧ ∀ x, v ≠ .int .u32 x := by
  rcases h.2 with ⟨rfl, _⟩ | ⟨b, off, cap, rfl, _⟩
  · exact ⟨rfl, by simp⟩
  · exact ⟨rfl, by simp⟩

/-- The other letters. -/
def rsVal (A B C D : Rat) (sa sb : Bool) (aN aD bN bD : Value) (n m : Int) : Nat → Value
  | 0 => .bool sa | 1 => aN | 2 => aD | 3 => .bool sb | 4 => bN | 5 => bD | 6 => .int .i64 n | 7 => .int .i64 m
  | 100 => .bool (decide (A = B)) | 101 => .bool (decide (C = D)) | 102 => .bool (decide (0 = B))
  | 110 => .int .i64 (cmpQ A B) | 111 => .int .i64 (cmpQ C D) | 112 => .int .i64 (cmpQ 0 B) | 113 => .int .i64 (cmpQ A 0)
  | _ => .int .i64 0
def rsFact (sa sb : Bool) (aN aD bN bD : Value) (xs ys us vs : List Nat) : Nat → World → Prop
  | 2, w => Rd w aN xs ∧ Rd w aD ys
  | 5, w => Rd w bN us ∧ Rd w bD vs
  | _, _ => True
def rsS (A B C D : Rat) (sa sb : Bool) (aN aD bN bD : Value) (n m : Int) (xs ys us vs : List Nat) (c1 : aN.oneCell' = true ∧ ∀ x, aN ≠ .int .u32 x) (c2 : aD.oneCell' = true ∧ ∀ x, aD ≠ .int .u32 x)
    (c3 : bN.oneCell' = true ∧ ∀ x, bN ≠ .int .u32 x) (c4 : bD.oneCell' = true ∧ ∀ x, bD ≠ .int .u32 x) : SymD where
  val := rsVal A B C D sa sb aN aD bN bD n m
  fact := rsFact sa sb aN aD bN bD xs ys us vs
  keep := by
    intro w w' i k h
    unfold rsFact at h ⊢
    split
    · exact ⟨rd_kept h.1 k, rd_kept h.2 k⟩
    · exact ⟨rd_kept h.1 k, rd_kept h.2 k⟩
    · trivial
  cell := by
    intro i
    unfold rsVal
    split
    all_goals first
      | exact c1
      | exact c2
      | exact c3
      | exact c4
      | exact ⟨rfl, by simp⟩

theorem nr_small (n : Int) : nr (smallQ n) ≤ 5 := by
  unfold smallQ
  have a1 : 0 ≤ n % 41 := Int.emod_nonneg _ (by omega)
  have a2 : n % 41 < 41 := Int.emod_lt_of_pos _ (by omega)
  have b1 : 0 ≤ n.tdiv 41 % 5 := Int.emod_nonneg _ (by omega)
  have b2 : n.tdiv 41 % 5 < 5 := Int.emod_lt_of_pos _ (by omega)
  refine Nat.le_trans (nr_mkRat _ _ (by omega)) ?_
  have h1 := nl_one (show (n % 41 - 20).natAbs < 4294967296 by omega)
  have h2 := nl_one (show 1 + (n.tdiv 41 % 5).toNat < 4294967296 by omega)
  omega
theorem nr_abs (p : Rat) : nr (absQ p) ≤ nr p := by
  unfold absQ
  split
  · rw [nr_neg]; exact Nat.le_refl _
  · exact Nat.le_refl _

theorem rsX {A B C D : Rat} {sa sb : Bool} {aN aD bN bD : Value} {n m : Int} {xs ys us vs : List Nat} {c1 : aN.oneCell' = true ∧ ∀ x, aN ≠ .int .u32 x} {c2 : aD.oneCell' = true ∧ ∀ x, aD ≠ .int .u32 x}
    {c3 : bN.oneCell' = true ∧ ∀ x, bN ≠ .int .u32 x} {c4 : bD.oneCell' = true ∧ ∀ x, bD ≠ .int .u32 x} (hA : nr A ≤ 3) (hB : nr B ≤ 3) (hC : nr C ≤ 5) (hD : nr D ≤ 5) :
    QX (rsV A B C D) (rsS A B C D sa sb aN aD bN bD n m xs ys us vs c1 c2 c3 c4) (rsD (decide (A = 0)) (decide (B = 0)) (decide (D = 0))) := by
  have z : ∀ ν : Nat → Rat, vq ν (.c 0 1) = 0 := fun _ => Rat.zero_mkRat _
  have o : ∀ ν : Nat → Rat, vq ν (.c 1 1) = 1 := fun _ => by show mkRat 1 1 = 1; rw [Rat.mkRat_one]; rfl
  have n0 : nr (0 : Rat) ≤ 1 := by decide
  have z0 : mkRat 0 1 = (0 : Rat) := Rat.zero_mkRat _
  refine ⟨⟨fun i => ?_⟩, ?_, ?_, ?_, ?_, ?_, ?_, ?_, ?_⟩
  · unfold rsV
    have e1 := nr_add A B
    have e2 := nr_sub A B
    have e3 := nr_mul A B
    have e5 := nr_add C D
    have e6 := nr_sub C D
    have e7 := nr_mul C D
    have e9 := nr_add A A
    have e10 := nr_mul A A
    have e11 := nr_sub 0 B
    have e12 := nr_sub 0 A
    have e13 := nr_sub 0 C
    have e14 := nr_sub 0 D
    have e15 := nr_abs A
    have e16 := nr_abs C
    have e4 : nr (A / B) ≤ 10 := by
      by_cases h : B = 0
      · subst h; rw [Rat.div_def, Rat.inv_zero, Rat.mul_zero]; omega
      · have := nr_div (a := A) h; omega
    have e8 : nr (C / D) ≤ 10 := by
      by_cases h : D = 0
      · subst h; rw [Rat.div_def, Rat.inv_zero, Rat.mul_zero]; omega
      · have := nr_div (a := C) h; omega
    split <;> omega
  · intro k p q r h
    have h : rsBin k p q = some r := h
    unfold rsBin at h
    split at h
    all_goals first
      | (cases h; done)
      | (obtain rfl := Option.some.inj h
         simp only [reduceIte, Nat.reduceEqDiff, Nat.succ_ne_zero, vq, rsV, z0]
         done)
      | (obtain rfl := Option.some.inj h
         simp only [reduceIte, Nat.reduceEqDiff, Nat.succ_ne_zero, vq, rsV, z0]
         clear h hA hB hC hD c1 c2 c3 c4 z o n0 z0
         grind)
  · intro p q r h
    have h : rsQuo (decide (A = 0)) (decide (B = 0)) (decide (D = 0)) p q = some r := h
    unfold rsQuo at h
    split at h
    · by_cases hb : B = 0
      · rw [decide_eq_true hb] at h; cases h
      · rw [decide_eq_false hb] at h
        obtain rfl := Option.some.inj h
        exact ⟨hb, rfl⟩
    · by_cases hb : D = 0
      · rw [decide_eq_true hb] at h; cases h
      · rw [decide_eq_false hb] at h
        obtain rfl := Option.some.inj h
        exact ⟨hb, rfl⟩
    · by_cases hb : A = 0
      · rw [decide_eq_true hb] at h; cases h
      · rw [decide_eq_false hb] at h
        obtain rfl := Option.some.inj h
        refine ⟨hb, ?_⟩
        rw [o]
        show 1 = A / A
        grind
    · by_cases hb : B = 0
      · rw [decide_eq_true hb] at h; cases h
      · rw [decide_eq_false hb] at h
        obtain rfl := Option.some.inj h
        refine ⟨hb, ?_⟩
        rw [z]
        show 0 = 0 / B
        grind
    · cases h
  · intro p q b h
    have h : rsSame (decide (A = 0)) (decide (B = 0)) (decide (D = 0)) p q = some b := h
    unfold rsSame at h
    split at h
    all_goals first
      | (cases h; done)
      | (obtain rfl := Option.some.inj h
         rw [z]
         first | rfl | (simp; done))
  · intro p q b h
    have h : rsCmp p q = some b := h
    unfold rsCmp at h
    split at h
    · obtain rfl := Option.some.inj h
      exact (cmpQ_zero _ _).2 rfl
    · cases h
  · intro p h; cases h
  · intro p r h
    have h : rsAbs p = some r := h
    unfold rsAbs at h
    split at h
    · obtain rfl := Option.some.inj h; rfl
    · obtain rfl := Option.some.inj h; rfl
    · cases h
  · intro p q j h
    have h : rsSameS p q = some j := h
    unfold rsSameS at h
    split at h
    · obtain rfl := Option.some.inj h; exact ⟨rfl, fun _ => trivial⟩
    · obtain rfl := Option.some.inj h; exact ⟨rfl, fun _ => trivial⟩
    · obtain rfl := Option.some.inj h; exact ⟨by rw [z]; rfl, fun _ => trivial⟩
    · cases h
  · intro p q j h
    have h : rsCmpS p q = some j := h
    unfold rsCmpS at h
    split at h
    · obtain rfl := Option.some.inj h; exact ⟨rfl, fun _ => trivial⟩
    · obtain rfl := Option.some.inj h; exact ⟨rfl, fun _ => trivial⟩
    · obtain rfl := Option.some.inj h; exact ⟨by rw [z]; rfl, fun _ => trivial⟩
    · obtain rfl := Option.some.inj h; exact ⟨by rw [z]; rfl, fun _ => trivial⟩
    · cases h

theorem rsBo_ok {A B C D : Rat} {sa sb : Bool} {aN aD bN bD : Value} {n m : Int} {xs ys us vs : List Nat} (c1 : aN.oneCell' = true ∧ ∀ x, aN ≠ .int .u32 x) (c2 : aD.oneCell' = true ∧ ∀ x, aD ≠ .int .u32 x)
    (c3 : bN.oneCell' = true ∧ ∀ x, bN ≠ .int .u32 x) (c4 : bD.oneCell' = true ∧ ∀ x, bD ≠ .int .u32 x) (i : Nat) (h : rsBo i = true) : ∃ b, (rsS A B C D sa sb aN aD bN bD n m xs ys us vs c1 c2 c3 c4).val i = .bool b := by
  unfold rsBo at h
  simp only [Bool.and_eq_true, Nat.ble_eq] at h
  show ∃ b, rsVal A B C D sa sb aN aD bN bD n m i = .bool b
  have hi : i = 100 ∨ i = 101 ∨ i = 102 := by omega
  rcases hi with rfl | rfl | rfl
  all_goals exact ⟨_, rfl⟩
theorem rsIo_ok {A B C D : Rat} {sa sb : Bool} {aN aD bN bD : Value} {n m : Int} {xs ys us vs : List Nat} (c1 : aN.oneCell' = true ∧ ∀ x, aN ≠ .int .u32 x) (c2 : aD.oneCell' = true ∧ ∀ x, aD ≠ .int .u32 x)
    (c3 : bN.oneCell' = true ∧ ∀ x, bN ≠ .int .u32 x) (c4 : bD.oneCell' = true ∧ ∀ x, bD ≠ .int .u32 x) (i : Nat) (h : rsIo i = true) : ∃ z, (rsS A B C D sa sb aN aD bN bD n m xs ys us vs c1 c2 c3 c4).val i = .int .i64 z := by
  unfold rsIo at h
  simp only [Bool.and_eq_true, Nat.ble_eq] at h
  show ∃ z, rsVal A B C D sa sb aN aD bN bD n m i = .int .i64 z
  have hi : i = 110 ∨ i = 111 ∨ i = 112 ∨ i = 113 := by omega
  rcases hi with rfl | rfl | rfl | rfl
  all_goals exact ⟨_, rfl⟩
theorem rsRaw1 {C D : Rat} {sa sb : Bool} {aN aD bN bD : Value} {n m : Int} {xs ys us vs : List Nat} (c1 : aN.oneCell' = true ∧ ∀ x, aN ≠ .int .u32 x) (c2 : aD.oneCell' = true ∧ ∀ x, aD ≠ .int .u32 x) (c3 : bN.oneCell' = true ∧ ∀ x, bN ≠ .int .u32 x) (c4 : bD.oneCell' = true ∧ ∀ x, bD ≠ .int .u32 x) (w : World) (hf : (rsS (rawQ sa xs ys) (rawQ sb us vs) C D sa sb aN aD bN bD n m xs ys us vs c1 c2 c3 c4).fact (0 + 2) w) : ∃ s xs' ys', RawA w (.agg #[(rsS (rawQ sa xs ys) (rawQ sb us vs) C D sa sb aN aD bN bD n m xs ys us vs c1 c2 c3 c4).val 0, (rsS (rawQ sa xs ys) (rawQ sb us vs) C D sa sb aN aD bN bD n m xs ys us vs c1 c2 c3 c4).val (0 + 1), (rsS (rawQ sa xs ys) (rawQ sb us vs) C D sa sb aN aD bN bD n m xs ys us vs c1 c2 c3 c4).val (0 + 2)]) s xs' ys' ∧ rsV (rawQ sa xs ys) (rawQ sb us vs) C D 0 = rawQ s xs' ys' := by
  have hf : Rd w aN xs ∧ Rd w aD ys := hf
  exact ⟨sa, xs, ys, ⟨aN, aD, rfl, hf.1, hf.2⟩, rfl⟩
theorem rsRaw2 {C D : Rat} {sa sb : Bool} {aN aD bN bD : Value} {n m : Int} {xs ys us vs : List Nat} (c1 : aN.oneCell' = true ∧ ∀ x, aN ≠ .int .u32 x) (c2 : aD.oneCell' = true ∧ ∀ x, aD ≠ .int .u32 x) (c3 : bN.oneCell' = true ∧ ∀ x, bN ≠ .int .u32 x) (c4 : bD.oneCell' = true ∧ ∀ x, bD ≠ .int .u32 x) (w : World) (hf : (rsS (rawQ sa xs ys) (rawQ sb us vs) C D sa sb aN aD bN bD n m xs ys us vs c1 c2 c3 c4).fact (3 + 2) w) : ∃ s xs' ys', RawA w (.agg #[(rsS (rawQ sa xs ys) (rawQ sb us vs) C D sa sb aN aD bN bD n m xs ys us vs c1 c2 c3 c4).val 3, (rsS (rawQ sa xs ys) (rawQ sb us vs) C D sa sb aN aD bN bD n m xs ys us vs c1 c2 c3 c4).val (3 + 1), (rsS (rawQ sa xs ys) (rawQ sb us vs) C D sa sb aN aD bN bD n m xs ys us vs c1 c2 c3 c4).val (3 + 2)]) s xs' ys' ∧ rsV (rawQ sa xs ys) (rawQ sb us vs) C D 1 = rawQ s xs' ys' := by
  have hf : Rd w bN us ∧ Rd w bD vs := hf
  exact ⟨sb, us, vs, ⟨bN, bD, rfl, hf.1, hf.2⟩, rfl⟩

def rsArgs : List A1 := [.agg [.atom (.sym 0), .atom (.sym 1), .atom (.sym 2)], .agg [.atom (.sym 3), .atom (.sym 4), .atom (.sym 5)], .one (.atom (.sym 6)), .one (.atom (.sym 7))]

set_option maxRecDepth 1000000 in
theorem ratSumsTold : ∃ t : Tr Func, TabOK Tryz.prog t ∧ ([(false, false, false), (true, false, false), (false, true, false), (true, true, false), (false, false, true), (true, false, true), (false, true, true), (true, true, true)].all fun z => isTrueA (evalCall ⟨Tryz.prog, true, t.get, orcD (rsL z.1 z.2.1 z.2.2), rsHook Tryz.prog⟩ 1000000 3 rsArgs .e 0)) = true :=
  ⟨((((((((((((((((((((((Tr.e).put 3 (some Tryz.f3)).put 4 (some Tryz.f4)).put 5 (some Tryz.f5)).put 6 (some Tryz.f6)).put 7 (some Tryz.f7)).put 8 (some Tryz.f8)).put 9 (some Tryz.f9)).put 10 (some Tryz.f10)).put 11 (some Tryz.f11)).put 12 (some Tryz.f12)).put 13 (some Tryz.f13)).put 14 (some Tryz.f14)).put 15 (some Tryz.f15)).put 16 (some Tryz.f16)).put 17 (some Tryz.f17)).put 18 (some Tryz.f18)).put 19 (some Tryz.f19)).put 20 (some Tryz.f20)).put 21 (some Tryz.f21)).put 22 (some Tryz.f22)).put 23 (some Tryz.f23)).put 36 (some Tryz.f36),
   (TabOK.put (TabOK.put (TabOK.put (TabOK.put (TabOK.put (TabOK.put (TabOK.put (TabOK.put (TabOK.put (TabOK.put (TabOK.put (TabOK.put (TabOK.put (TabOK.put (TabOK.put (TabOK.put (TabOK.put (TabOK.put (TabOK.put (TabOK.put (TabOK.put (TabOK.put (TabOK.e _) ⟨Tryz.func3, by decide +kernel, by decide +kernel⟩) ⟨Tryz.func4, by decide +kernel, by decide +kernel⟩) ⟨Tryz.func5, by decide +kernel, by decide +kernel⟩) ⟨Tryz.func6, by decide +kernel, by decide +kernel⟩) ⟨Tryz.func7, by decide +kernel, by decide +kernel⟩) ⟨Tryz.func8, by decide +kernel, by decide +kernel⟩) ⟨Tryz.func9, by decide +kernel, by decide +kernel⟩) ⟨Tryz.func10, by decide +kernel, by decide +kernel⟩) ⟨Tryz.func11, by decide +kernel, by decide +kernel⟩) ⟨Tryz.func12, by decide +kernel, by decide +kernel⟩) ⟨Tryz.func13, by decide +kernel, by decide +kernel⟩) ⟨Tryz.func14, by decide +kernel, by decide +kernel⟩) ⟨Tryz.func15, by decide +kernel, by decide +kernel⟩) ⟨Tryz.func16, by decide +kernel, by decide +kernel⟩) ⟨Tryz.func17, by decide +kernel, by decide +kernel⟩) ⟨Tryz.func18, by decide +kernel, by decide +kernel⟩) ⟨Tryz.func19, by decide +kernel, by decide +kernel⟩) ⟨Tryz.func20, by decide +kernel, by decide +kernel⟩) ⟨Tryz.func21, by decide +kernel, by decide +kernel⟩) ⟨Tryz.func22, by decide +kernel, by decide +kernel⟩) ⟨Tryz.func23, by decide +kernel, by decide +kernel⟩) ⟨Tryz.func36, by decide +kernel, by decide +kernel⟩),
   by decide +kernel⟩

theorem ratSums_walk {w : World} {a b : Value} {n m : Int} {sa sb : Bool} {xs ys us vs : List Nat} (ha : RawA w a sa xs ys) (hb : RawA w b sb us vs) (hn : (Lit.int .i64 n).wf = true) (hm : (Lit.int .i64 m).wf = true) :
    Calls Tryz.prog 3 #[a, b, .int .i64 n, .int .i64 m] w fun e w' => e = .returned (.bool true) ∧ Below w.heap.size w w' := by
  obtain ⟨n1, n2⟩ := bounds_i64 hn
  obtain ⟨m1, m2⟩ := bounds_i64 hm
  obtain ⟨aN, aD, rfl, h1, h2⟩ := ha
  obtain ⟨bN, bD, rfl, h3, h4⟩ := hb
  obtain ⟨t, ht, hr⟩ := ratSumsTold
  rw [List.all_eq_true] at hr
  have X := rsX (sa := sa) (sb := sb) (n := n) (m := m) (xs := xs) (ys := ys) (us := us) (vs := vs) (c1 := rd_cell h1) (c2 := rd_cell h2) (c3 := rd_cell h3) (c4 := rd_cell h4) (nr_rawQ sa h1.1 h2.1) (nr_rawQ sb h3.1 h4.1) (nr_small n) (nr_small m)
  have hall : ∀ x y z : Bool, (x, y, z) ∈ [(false, false, false), (true, false, false), (false, true, false), (true, true, false), (false, false, true), (true, false, true), (false, true, true), (true, true, true)] := by decide
  have hread := hr _ (hall (decide (rawQ sa xs ys = 0)) (decide (rawQ sb us vs = 0)) (decide (smallQ m = 0)))
  refine true_call (M := DomQ true (rsV (rawQ sa xs ys) (rawQ sb us vs) (smallQ n) (smallQ m)) (rsS (rawQ sa xs ys) (rawQ sb us vs) (smallQ n) (smallQ m) sa sb aN aD bN bD n m xs ys us vs (rd_cell h1) (rd_cell h2) (rd_cell h3) (rd_cell h4)) (fun _ => none))
    (cx := ⟨Tryz.prog, true, t.get, orcD (rsL (decide (rawQ sa xs ys = 0)) (decide (rawQ sb us vs = 0)) (decide (smallQ m = 0))), rsHook Tryz.prog⟩) (xs := rsArgs) (vs := [.agg #[.bool sa, aN, aD], .agg #[.bool sb, bN, bD], .int .i64 n, .int .i64 m]) Tryz.checked.mixed
    (cxS_ok ht ⟨[orcTrue 4 (fun _ => known2_any _), orcRaw2 5 0 0 3 1 rawQ make2law_any (rsRaw1 (rd_cell h1) (rd_cell h2) (rd_cell h3) (rd_cell h4)) (rsRaw2 (rd_cell h1) (rd_cell h2) (rd_cell h3) (rd_cell h4)),
      orcSmall 6 6 2 7 3 smallR_any ⟨n, rfl, ⟨n1, n2⟩, rfl⟩ ⟨m, rfl, ⟨m1, m2⟩, rfl⟩, oAdd X, oSub X, oMul X, oQuo X, oSame X, oCmp X, oNeg X, oAbs X, oZero2, oAdd2 X, oMul2 X, oQuo2 X, oSame2 X, orcCmp X 13 cmp2_num, oNeg2 X, oAbs2 X], rfl⟩
      (opH_le (bigHook_le _ _) eqHook_le) (opH_ok (bigHook_ok _) (eqHook_ok _ (rsBo_ok (rd_cell h1) (rd_cell h2) (rd_cell h3) (rd_cell h4)) (rsIo_ok (rd_cell h1) (rd_cell h2) (rd_cell h3) (rd_cell h4))))) (fun hg => by cases hg)
    ⟨⟨[.bool sa, aN, aD], rfl, ⟨rfl, fun _ => trivial⟩, ⟨rfl, fun _ => trivial⟩, ⟨rfl, fun _ => ⟨h1, h2⟩⟩, trivial⟩, ⟨[.bool sb, bN, bD], rfl, ⟨rfl, fun _ => trivial⟩, ⟨rfl, fun _ => trivial⟩, ⟨rfl, fun _ => ⟨h3, h4⟩⟩, trivial⟩, ⟨rfl, fun _ => trivial⟩, ⟨rfl, fun _ => trivial⟩, trivial⟩ hread
end Go.Proofs.YtnknbeinnfhomaaGreatDoor
