/- Binary digits; a byte of a constant table. -/
/- A block that holds given cells. -/
/- Words of 64 bits: sfloat's rest; math/bits' Add64, Sub64, Len64, LeadingZeros64, Mul64. -/
import Derived.Test.YtcfhajnboamnnabGreatDoorKA
import Derived.Lib.Tables
import Derived.Deep.Cut
import Derived.Laws.Externs
namespace Go.Proofs.YtcfhajnboamnnabGreatDoor
open Go.RowKit
set_option linter.unusedVariables false

/-- How many binary digits. -/
def blen (n : Nat) : Nat := if n = 0 then 0 else Nat.log2 n + 1
theorem blen_zero : blen 0 = 0 := rfl
theorem blen_le_iff (n k : Nat) : blen n ≤ k ↔ n < 2 ^ k := by
  unfold blen
  split
  · rename_i h; subst h; simp [Nat.two_pow_pos]
  · rename_i h; rw [← Nat.log2_lt h]; omega
theorem blen_eq {n k : Nat} (h1 : 2 ^ k ≤ n) (h2 : n < 2 ^ (k + 1)) : blen n = k + 1 := by
  have a := (blen_le_iff n (k + 1)).2 h2
  have b : ¬ blen n ≤ k := fun h => by have := (blen_le_iff n k).1 h; omega
  omega
theorem blen_div (n k : Nat) (h : 2 ^ k ≤ n) : blen n = blen (n / 2 ^ k) + k := by
  have hp := Nat.two_pow_pos k
  have h1 : ∀ j, blen n ≤ j + k ↔ blen (n / 2 ^ k) ≤ j := by
    intro j
    rw [blen_le_iff, blen_le_iff, Nat.div_lt_iff_lt_mul hp, Nat.pow_add]
  have h2 : ¬ blen n ≤ k := fun h' => by have := (blen_le_iff n k).1 h'; omega
  have a := (h1 (blen (n / 2 ^ k))).2 (Nat.le_refl _)
  have b := (h1 (blen n - k)).1 (by omega)
  omega
theorem len8_blen : ∀ i : Fin 256, Lib.len8 (i.val : Int) = (blen i.val : Int) := by decide +kernel

theorem ret_int {k : IntKind} {a b : Int} (h : a = b) : Ending.returned (.int k a) = .returned (.int k b) := by rw [h]
theorem blen_half {x : Nat} (h : 0 < x) : blen x = blen (x / 2) + 1 := by
  by_cases h1 : x = 1
  · subst h1; decide
  · exact blen_div x 1 (by omega)

theorem run_str (w : World) (s : ByteArray) (hs : s.size = 256) (k : IntKind) (y b : Nat) (hy : y < 256) (hb : (s[y]?).map (·.toNat) = some b) : (Instr.index 9 (.string s) (.int k (y : Int))).run Tryz.prog w = .ok (.int .u8 (b : Nat)) w := by
  have hi : 0 ≤ (y : Int) ∧ (y : Int) < (s.size : Int) := by rw [hs]; omega
  have h2 : y < s.size := by rw [hs]; omega
  rw [run_index_string w 9 s k y Tryz.underlying9, dif_pos hi]
  simp only [Int.toNat_natCast]
  congr 2
  have h4 : s[y]? = some s[y] := getElem?_pos s y h2
  rw [h4] at hb
  simp at hb
  rw [hb]

/-- A byte of a constant table. -/
theorem law_tab {w : World} {ops : Array Oper} {rest : List Oper} {o : Oper} {a : Act} {Q : Exit → Act → World → Prop} (hgd : o.guard = none) {s : ByteArray} (x : Operand)
    (ho : o.op = .index 9 (.const (.string s)) x) (hs : s.size = 256) (hall : ∀ i : Fin 256, (s[i.val]?).map (·.toNat) = some (blen i.val)) (k : IntKind) (v : Int) (y : Nat) (hx : a.eval x = .int k v) (hv : v = (y : Int)) (hy : y < 256)
    (h : wpList Tryz.prog ops Q rest (a.put o.dst (.int .u8 (blen y : Nat))) w) : wpList Tryz.prog ops Q (o :: rest) a w := by
  subst hv
  refine wpList_plain hgd fun K hK => ?_
  have hrun := run_str w s hs k y (blen y) hy (hall ⟨y, hy⟩)
  have hc : a.eval (.const (.string s)) = .string s := rfl
  unfold Oper.wp
  simp [execOp, ho, hx, hc, hrun, Result.andThen]
  exact hK _ _ h
end Go.Proofs.YtcfhajnboamnnabGreatDoor

namespace Go.Proofs.YtcfhajnboamnnabGreatDoor
open Go.RowKit
set_option linter.unusedVariables false

/-- Block g holds these cells. -/
def BlkV (w : World) (g : Nat) (T : TypeId) (cs : List Value) : Prop := w.heap[g]? = some (.cells cs.toArray T (0, 0))
theorem BlkV.lt {w : World} {g : Nat} {T : TypeId} {cs : List Value} (h : BlkV w g T cs) : g < w.heap.size := (Array.getElem?_eq_some_iff.1 h).1
theorem BlkV.cell {w : World} {g : Nat} {T : TypeId} {cs : List Value} (h : BlkV w g T cs) (i : Nat) {v : Value} (hi : cs[i]? = some v) : w.cell? ⟨g, i, none⟩ = some v := by
  unfold BlkV at h
  simp [World.cell?, h, hi]
theorem BlkV.frozen {w : World} {g : Nat} {T : TypeId} {cs : List Value} (h : BlkV w g T cs) (i : Nat) : w.frozen? ⟨g, i, none⟩ = false := by
  unfold BlkV at h
  simp [World.frozen?, h]
theorem BlkV.set {w : World} {g : Nat} {T : TypeId} {cs : List Value} (h : BlkV w g T cs) (i : Nat) (v : Value) : BlkV (w.setCell ⟨g, i, none⟩ v) g T (cs.set i v) := by
  unfold BlkV at h ⊢
  simp only [World.setCell, Array.getElem?_modify, if_true, h, Option.map_some]
  simp
theorem BlkV.fwd {w w' : World} {g : Nat} {T : TypeId} {cs : List Value} (h : BlkV w g T cs) (k : Fwd w w') : BlkV w' g T cs := k.blockAt h
theorem BlkV.only {w w' : World} {g b : Nat} {T : TypeId} {cs : List Value} (h : BlkV w b T cs) (k : Only g w w') (hne : b ≠ g) : BlkV w' b T cs := k.blockAt h hne
theorem BlkV.drewN {w : World} {g : Nat} {T : TypeId} {cs : List Value} (h : BlkV w g T cs) (n : Nat) : BlkV (w.drewN n) g T cs := h
theorem BlkV.drew {w : World} {g : Nat} {T : TypeId} {cs : List Value} (h : BlkV w g T cs) : BlkV w.drew g T cs := h
theorem BlkV.made (w : World) (T : TypeId) (cs : List Value) : BlkV (w.alloc (.cells cs.toArray T)) w.heap.size T cs := heap_alloc_new w _
theorem BlkV.made2 (w : World) (T : TypeId) (o : Obj) (cs : List Value) : BlkV ((w.alloc o).alloc (.cells cs.toArray T)) (w.heap.size + 1) T cs := by
  have := BlkV.made (w.alloc o) T cs
  simpa using this
theorem BlkV.alloc {w : World} {g : Nat} {T : TypeId} {cs : List Value} (h : BlkV w g T cs) (o : Obj) : BlkV (w.alloc o) g T cs := h.fwd ((Fwd.refl w).alloc o)
theorem BlkV.made' (w : World) (g : Nat) (hg : g = w.heap.size) (T : TypeId) (cs : List Value) : BlkV (w.alloc (.cells cs.toArray T)) g T cs := by
  subst hg; exact BlkV.made w T cs
theorem farset {w : World} {g i : Nat} {a v : Value} {p : Addr} (h : p.block ≠ g) (hc : w.cell? p = some v) : (w.setCell ⟨g, i, none⟩ a).cell? p = some v := (Only.set g w i a).cell hc h
/-- A goal that the walk does not enter. -/
structure Held (p : Prop) : Prop where
  out : p
theorem stop_here {P : Program} {f : Func} {Q : Ending → World → Prop} {e : Exit} {a : Act} {w : World} (h : Held (bodyPost P f Q e a w)) : bodyPost P f Q e a w := h.out
theorem Fwd.set {a w : World} {g i : Nat} {v : Value} (h : Fwd a w) (hg : a.heap.size ≤ g) : Fwd a (w.setCell ⟨g, i, none⟩ v) := h.wrote (Only.set g w i v) hg

end Go.Proofs.YtcfhajnboamnnabGreatDoor

namespace Go.Proofs.YtcfhajnboamnnabGreatDoor
open Go.RowKit
set_option linter.unusedVariables false

theorem rest_any (w : World) (x : Nat) (hx : x < 18446744073709551616) : Calls Tryz.prog 121 #[.int .u64 x] w fun e w' => e = .returned (.int .u64 ((if x = 0 then 0 else 1 : Nat) : Int)) ∧ w' = w := by
  go_enter Tryz.func121, Tryz.ntmps121
  by_cases h : x = 0
  · subst h
    go_wp2
    go_ret
    exact ⟨rfl, rfl⟩
  · have i1 : ((x : Int) == 0) = false := by simp; omega
    rw [if_neg h]
    go_wp2
    go_ret
    exact ⟨rfl, rfl⟩

/-- The model's entry for math/bits.Sub64. -/
def sub64Entry' : Array Value → Sem Value := fun args => do
  let (x, y, b) ← Extern.MathBitsCarry.three "Sub64" args
  pure (Extern.MathBitsCarry.pair ((x + Extern.MathBitsCarry.m64 - y - b) % Extern.MathBitsCarry.m64) (if x < y + b then 1 else 0))
theorem run_sub64' {P : Program} (x y b : Nat) (hb : b ≤ 1) (w : World) :
    (sub64Entry' #[.int .u64 x, .int .u64 y, .int .u64 b]).run P w =
      .ok (.tuple #[.int .u64 (((x + 18446744073709551616 - y - b) % 18446744073709551616 : Nat) : Int), .int .u64 ((if x < y + b then 1 else 0 : Nat) : Int)]) w := by
  have : b = 0 ∨ b = 1 := by omega
  rcases this with rfl | rfl <;> rfl

theorem add64_run (x y c : Nat) (hc : c ≤ 1) (w : World) : (callFunc 151 #[.int .u64 x, .int .u64 y, .int .u64 c]).run Tryz.prog w = .ok (.value (.tuple #[.int .u64 (((x + y + c) % 18446744073709551616 : Nat) : Int), .int .u64 (((x + y + c) / 18446744073709551616 : Nat) : Int)])) w := by
  rw [run_callFunc_extern Tryz.func151 (by kernel_rfl) (by kernel_rfl) (by kernel_rfl) (e := add64Entry) (by kernel_rfl), run_add64 x y c (by omega) (by omega) (by omega) (by omega)]
  simp only [Result.andThen]
  congr 5 <;> omega

theorem sub64_run (x y b : Nat) (hb : b ≤ 1) (w : World) : (callFunc 152 #[.int .u64 x, .int .u64 y, .int .u64 b]).run Tryz.prog w = .ok (.value (.tuple #[.int .u64 (((x + 18446744073709551616 - y - b) % 18446744073709551616 : Nat) : Int), .int .u64 ((if x < y + b then 1 else 0 : Nat) : Int)])) w := by
  rw [run_callFunc_extern Tryz.func152 (by kernel_rfl) (by kernel_rfl) (by kernel_rfl) (e := sub64Entry') (by kernel_rfl), run_sub64' x y b hb]
  rfl

set_option maxHeartbeats 4000000 in
set_option maxRecDepth 100000 in
theorem len64_any (w : World) (x : Nat) (hx : x < 18446744073709551616) : Calls Tryz.prog 145 #[.int .u64 x] w fun e w' => e = .returned (.int .i64 (blen x)) ∧ w' = w := by
  go_enter Tryz.func145, Tryz.ntmps145
  generalize hT : (ByteArray.mk (List.append (List.append _ _) (List.append _ _)).toArray) = T
  have hsz : T.size = 256 := by rw [← hT]; decide +kernel
  have hall : ∀ i : Fin 256, (T[i.val]?).map (·.toNat) = some (blen i.val) := by rw [← hT]; decide +kernel
  clear hT
  have HS := hid hsz
  have HA := hid hall
  clear hsz hall
  have E := hid (And.intro (fun y (h : 4294967296 ≤ y) => blen_div y 32 h) (And.intro (fun y (h : 65536 ≤ y) => blen_div y 16 h) (fun y (h : 256 ≤ y) => blen_div y 8 h)))
  by_cases h32 : x < 4294967296
  · have i32 : decide (4294967296 ≤ (x : Int)) = false := decide_eq_false (by omega)
    by_cases h16 : x < 65536
    · have i16 : decide (65536 ≤ (x : Int)) = false := decide_eq_false (by omega)
      by_cases h8 : x < 256
      · have i8 : decide (256 ≤ (x : Int)) = false := decide_eq_false (by omega)
        have hy : x < 256 := by omega
        have hb : blen (x) ≤ 8 := (blen_le_iff _ 8).2 (by omega)
        have HE : Hid (blen x = blen (x) + 0) := hid (by rfl)
        go_wp2_with (with_reducible refine law_tab (by with_unfolding_all rfl) (.tmp 21) (by with_unfolding_all rfl) HS.out HA.out .u8 _ (x) (by with_unfolding_all rfl) (by omega) hy ?_)
        go_ret
        exact ⟨ret_int (by have := HE.out; omega), rfl⟩
      · have i8 : 256 ≤ (x : Int) := by omega
        have hy : x / 256 < 256 := by omega
        have hb : blen (x / 256) ≤ 8 := (blen_le_iff _ 8).2 (by omega)
        have HE : Hid (blen x = blen (x / 256) + 8) := hid (by rw [E.out.2.2 (x) (by omega)])
        go_wp2_with (with_reducible refine law_tab (by with_unfolding_all rfl) (.tmp 21) (by with_unfolding_all rfl) HS.out HA.out .u8 _ (x / 256) (by with_unfolding_all rfl) (by omega) hy ?_)
        go_ret
        exact ⟨ret_int (by have := HE.out; omega), rfl⟩
    · have i16 : 65536 ≤ (x : Int) := by omega
      by_cases h8 : x / 65536 < 256
      · have i8 : decide (256 ≤ (x : Int) / 65536) = false := decide_eq_false (by omega)
        have hy : x / 65536 < 256 := by omega
        have hb : blen (x / 65536) ≤ 8 := (blen_le_iff _ 8).2 (by omega)
        have HE : Hid (blen x = blen (x / 65536) + 16) := hid (by rw [E.out.2.1 (x) (by omega)])
        go_wp2_with (with_reducible refine law_tab (by with_unfolding_all rfl) (.tmp 21) (by with_unfolding_all rfl) HS.out HA.out .u8 _ (x / 65536) (by with_unfolding_all rfl) (by omega) hy ?_)
        go_ret
        exact ⟨ret_int (by have := HE.out; omega), rfl⟩
      · have i8 : 256 ≤ (x : Int) / 65536 := by omega
        have hy : x / 65536 / 256 < 256 := by omega
        have hb : blen (x / 65536 / 256) ≤ 8 := (blen_le_iff _ 8).2 (by omega)
        have HE : Hid (blen x = blen (x / 65536 / 256) + 24) := hid (by rw [E.out.2.1 (x) (by omega), E.out.2.2 (x / 65536) (by omega)])
        go_wp2_with (with_reducible refine law_tab (by with_unfolding_all rfl) (.tmp 21) (by with_unfolding_all rfl) HS.out HA.out .u8 _ (x / 65536 / 256) (by with_unfolding_all rfl) (by omega) hy ?_)
        go_ret
        exact ⟨ret_int (by have := HE.out; omega), rfl⟩
  · have i32 : 4294967296 ≤ (x : Int) := by omega
    by_cases h16 : x / 4294967296 < 65536
    · have i16 : decide (65536 ≤ (x : Int) / 4294967296) = false := decide_eq_false (by omega)
      by_cases h8 : x / 4294967296 < 256
      · have i8 : decide (256 ≤ (x : Int) / 4294967296) = false := decide_eq_false (by omega)
        have hy : x / 4294967296 < 256 := by omega
        have hb : blen (x / 4294967296) ≤ 8 := (blen_le_iff _ 8).2 (by omega)
        have HE : Hid (blen x = blen (x / 4294967296) + 32) := hid (by rw [E.out.1 (x) (by omega)])
        go_wp2_with (with_reducible refine law_tab (by with_unfolding_all rfl) (.tmp 21) (by with_unfolding_all rfl) HS.out HA.out .u8 _ (x / 4294967296) (by with_unfolding_all rfl) (by omega) hy ?_)
        go_ret
        exact ⟨ret_int (by have := HE.out; omega), rfl⟩
      · have i8 : 256 ≤ (x : Int) / 4294967296 := by omega
        have hy : x / 4294967296 / 256 < 256 := by omega
        have hb : blen (x / 4294967296 / 256) ≤ 8 := (blen_le_iff _ 8).2 (by omega)
        have HE : Hid (blen x = blen (x / 4294967296 / 256) + 40) := hid (by rw [E.out.1 (x) (by omega), E.out.2.2 (x / 4294967296) (by omega)])
        go_wp2_with (with_reducible refine law_tab (by with_unfolding_all rfl) (.tmp 21) (by with_unfolding_all rfl) HS.out HA.out .u8 _ (x / 4294967296 / 256) (by with_unfolding_all rfl) (by omega) hy ?_)
        go_ret
        exact ⟨ret_int (by have := HE.out; omega), rfl⟩
    · have i16 : 65536 ≤ (x : Int) / 4294967296 := by omega
      by_cases h8 : x / 4294967296 / 65536 < 256
      · have i8 : decide (256 ≤ (x : Int) / 4294967296 / 65536) = false := decide_eq_false (by omega)
        have hy : x / 4294967296 / 65536 < 256 := by omega
        have hb : blen (x / 4294967296 / 65536) ≤ 8 := (blen_le_iff _ 8).2 (by omega)
        have HE : Hid (blen x = blen (x / 4294967296 / 65536) + 48) := hid (by rw [E.out.1 (x) (by omega), E.out.2.1 (x / 4294967296) (by omega)])
        go_wp2_with (with_reducible refine law_tab (by with_unfolding_all rfl) (.tmp 21) (by with_unfolding_all rfl) HS.out HA.out .u8 _ (x / 4294967296 / 65536) (by with_unfolding_all rfl) (by omega) hy ?_)
        go_ret
        exact ⟨ret_int (by have := HE.out; omega), rfl⟩
      · have i8 : 256 ≤ (x : Int) / 4294967296 / 65536 := by omega
        have hy : x / 4294967296 / 65536 / 256 < 256 := by omega
        have hb : blen (x / 4294967296 / 65536 / 256) ≤ 8 := (blen_le_iff _ 8).2 (by omega)
        have HE : Hid (blen x = blen (x / 4294967296 / 65536 / 256) + 56) := hid (by rw [E.out.1 (x) (by omega), E.out.2.1 (x / 4294967296) (by omega), E.out.2.2 (x / 4294967296 / 65536) (by omega)])
        go_wp2_with (with_reducible refine law_tab (by with_unfolding_all rfl) (.tmp 21) (by with_unfolding_all rfl) HS.out HA.out .u8 _ (x / 4294967296 / 65536 / 256) (by with_unfolding_all rfl) (by omega) hy ?_)
        go_ret
        exact ⟨ret_int (by have := HE.out; omega), rfl⟩

theorem lead64_any (w : World) (x : Nat) (hx : x < 18446744073709551616) : Calls Tryz.prog 136 #[.int .u64 x] w fun e w' => e = .returned (.int .i64 ((64 - blen x : Nat) : Int)) ∧ w' = w := by
  have hb : blen x ≤ 64 := (blen_le_iff x 64).2 (by omega)
  go_enter Tryz.func136, Tryz.ntmps136
  go_wp2_with fail
  refine (len64_any _ x hx).mono ?_
  rintro e w1 ⟨rfl, rfl⟩
  go_wp2
  go_ret
  exact ⟨ret_int (by omega), rfl⟩

theorem and32 (x : Nat) (hx : x < 18446744073709551616) : bits .and .u64 (x : Int) 4294967295 = ((x % 4294967296 : Nat) : Int) := by
  have h := bits_and_u64_nat x 4294967295 hx (by decide)
  rw [show (4294967295 : Nat) = 2 ^ 32 - 1 from rfl, Nat.and_two_pow_sub_one_eq_mod] at h
  exact h
theorem wrapN (n : Nat) (h : n < 18446744073709551616) : IntKind.u64.wrap (n : Int) = n := by rw [IntKind.wrap_u64]; omega
theorem wrapAny (n : Nat) : IntKind.u64.wrap (n : Int) = ((n % 18446744073709551616 : Nat) : Int) := by rw [IntKind.wrap_u64]; omega
theorem ret_pair {k l : IntKind} {a b c d : Int} (h : a = c) (g : b = d) : Ending.returned (.tuple #[.int k a, .int l b]) = .returned (.tuple #[.int k c, .int l d]) := by rw [h, g]
theorem mul64_hi (a b c d : Nat) (ha : a < 4294967296) (hb : b < 4294967296) (hc : c < 4294967296) (hd : d < 4294967296) :
    b * d < 18446744073709551616 ∧ a * d < 18446744073709551616 ∧ a * d + b * d / 4294967296 < 18446744073709551616 ∧ b * c < 18446744073709551616 ∧ (a * d + b * d / 4294967296) % 4294967296 + b * c < 18446744073709551616 ∧ a * c < 18446744073709551616 ∧ a * c + (a * d + b * d / 4294967296) / 4294967296 < 18446744073709551616 ∧
    a * c + (a * d + b * d / 4294967296) / 4294967296 + ((a * d + b * d / 4294967296) % 4294967296 + b * c) / 4294967296 < 18446744073709551616 ∧
    a * c + (a * d + b * d / 4294967296) / 4294967296 + ((a * d + b * d / 4294967296) % 4294967296 + b * c) / 4294967296 = (a * 4294967296 + b) * (c * 4294967296 + d) / 18446744073709551616 := by
  have e : (a * 4294967296 + b) * (c * 4294967296 + d) = (a * c) * 18446744073709551616 + (a * d + b * c) * 4294967296 + b * d := by grind
  rw [e]
  have l1 : a * c ≤ 4294967295 * 4294967295 := Nat.mul_le_mul (by omega) (by omega)
  have l2 : a * d ≤ 4294967295 * 4294967295 := Nat.mul_le_mul (by omega) (by omega)
  have l3 : b * c ≤ 4294967295 * 4294967295 := Nat.mul_le_mul (by omega) (by omega)
  have l4 : b * d ≤ 4294967295 * 4294967295 := Nat.mul_le_mul (by omega) (by omega)
  generalize a * c = p at *
  generalize a * d = q at *
  generalize b * c = r at *
  generalize b * d = s at *
  omega

set_option maxHeartbeats 4000000 in
set_option maxRecDepth 100000 in
theorem mul64_any (w : World) (x y : Nat) (hx : x < 18446744073709551616) (hy : y < 18446744073709551616) : Calls Tryz.prog 153 #[.int .u64 x, .int .u64 y] w fun e w' => e = .returned (.tuple #[.int .u64 ((x * y / 18446744073709551616 : Nat) : Int), .int .u64 ((x * y % 18446744073709551616 : Nat) : Int)]) ∧ w' = w := by
  have X := and32 x hx
  have Y := and32 y hy
  have X1 : (x : Int) / 4294967296 = ((x / 4294967296 : Nat) : Int) := by omega
  have Y1 : (y : Int) / 4294967296 = ((y / 4294967296 : Nat) : Int) := by omega
  have L : IntKind.u64.wrap ((x : Int) * y) = ((x * y % 18446744073709551616 : Nat) : Int) := by rw [← Int.natCast_mul]; exact wrapAny _
  have K := mul64_hi (x / 4294967296) (x % 4294967296) (y / 4294967296) (y % 4294967296) (by omega) (by omega) (by omega) (by omega)
  rw [show x / 4294967296 * 4294967296 + x % 4294967296 = x by omega, show y / 4294967296 * 4294967296 + y % 4294967296 = y by omega] at K
  generalize x / 4294967296 = a at *
  generalize x % 4294967296 = b at *
  generalize y / 4294967296 = c at *
  generalize y % 4294967296 = d at *
  obtain ⟨k1, k2, k3, k4, k5, k6, k7, k8, k9⟩ := K
  have HX := hid (And.intro X X1)
  have HY := hid (And.intro Y Y1)
  have HL := hid L
  have HK := hid k9
  clear X X1 Y Y1 L k9
  go_enter Tryz.func153, Tryz.ntmps153
  go_wp2
  go_ret2
  refine ⟨ret_pair ?_ HL.out, rfl⟩
  simp only [HX.out.1, HX.out.2, HY.out.1, HY.out.2]
  simp only [← Int.natCast_mul, wrapN _ k1, wrapN _ k2, wrapN _ k4, wrapN _ k6]
  rw [show ((b * d : Nat) : Int) / 4294967296 = ((b * d / 4294967296 : Nat) : Int) from rfl, ← Int.natCast_add, wrapN _ k3, and32 _ k3]
  rw [show ((a * d + b * d / 4294967296 : Nat) : Int) / 4294967296 = (((a * d + b * d / 4294967296) / 4294967296 : Nat) : Int) from rfl, ← Int.natCast_add, wrapN _ k7, ← Int.natCast_add, wrapN _ k5]
  rw [show (((a * d + b * d / 4294967296) % 4294967296 + b * c : Nat) : Int) / 4294967296 = ((((a * d + b * d / 4294967296) % 4294967296 + b * c) / 4294967296 : Nat) : Int) from rfl, ← Int.natCast_add, wrapN _ k8, HK.out]

theorem add64_run0 (x y : Nat) (w : World) : (callFunc 151 #[.int .u64 x, .int .u64 y, .int .u64 0]).run Tryz.prog w = .ok (.value (.tuple #[.int .u64 (((x + y) % 18446744073709551616 : Nat) : Int), .int .u64 (((x + y) / 18446744073709551616 : Nat) : Int)])) w := add64_run x y 0 (by omega) w

theorem sub64_run0 (x y : Nat) (w : World) : (callFunc 152 #[.int .u64 x, .int .u64 y, .int .u64 0]).run Tryz.prog w = .ok (.value (.tuple #[.int .u64 (((x + 18446744073709551616 - y) % 18446744073709551616 : Nat) : Int), .int .u64 ((if x < y then 1 else 0 : Nat) : Int)])) w := sub64_run x y 0 (by omega) w
end Go.Proofs.YtcfhajnboamnnabGreatDoor
