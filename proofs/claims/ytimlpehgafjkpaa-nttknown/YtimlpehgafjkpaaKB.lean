/- Contracts of strings.trimLeftByte, strings.TrimLeft at one byte, nat's writeGroup. -/
/- Contract of nat's Text. -/
/- The laws' own helpers: Make, Same, known; and of the second telling: Right, Cmp. -/
/- Of the second telling: Right, Cmp; the laws' Same and known. -/
/- Binary digits: math/bits.Len32, nat's Bits, and the second telling's. -/
import Derived.Test.YtimlpehgafjkpaaKA
import Derived.Lib.Strings
import Derived.Laws.BytesArg
import Derived.Lib.IndexBytes
import Derived.Laws.AppendOwnNone
import Derived.Test.YtimlpehgafjkpaaXB1
import Derived.Lib.Tables
import Derived.Deep.Cut
namespace Go.Proofs.Ytimlpehgafjkpaa
open Go.RowKit
set_option linter.unusedVariables false

/-- Bytes as a string. -/
def strOf (L : List Nat) : ByteArray := ⟨(L.map UInt8.ofNat).toArray⟩
def Byt (L : List Nat) : Prop := ∀ x ∈ L, x < 256
theorem strOf_list (L : List Nat) : (strOf L).data.toList = L.map UInt8.ofNat := rfl
theorem strOf_of {s : ByteArray} {L : List Nat} (h : s.data.toList = L.map UInt8.ofNat) : s = strOf L := by
  cases s with
  | mk d => simp only [strOf]; congr 1; apply Array.ext'; simpa using h

/-- How long a string in a slot is. -/
def strLen : Value → Nat | .string s => s.size | _ => 0

theorem head_byte {s : ByteArray} {x : Nat} {M : List Nat} (h : s.data.toList = (x :: M).map UInt8.ofNat) (hx : x < 256) (h0 : 0 < s.size) : (s[0]'h0).toNat = x := by
  cases s with
  | mk d =>
    have e : d.toList[0]? = some (UInt8.ofNat x) := by
      show (ByteArray.mk d).data.toList[0]? = _
      rw [h]; rfl
    have h0' : 0 < d.size := h0
    have e2 : d[0] = UInt8.ofNat x := by
      rw [Array.getElem?_toList, Array.getElem?_eq_getElem h0'] at e
      exact Option.some.inj e
    show (d[0]).toNat = x
    rw [e2, UInt8.toNat_ofNat']; omega

theorem str_size {s : ByteArray} {M : List Nat} (h : s.data.toList = M.map UInt8.ofNat) : s.size = M.length := by
  have := congrArg List.length h; simpa using this

/-! ### Rows of bytes -/
def byteCellsOf (L : List Nat) : List Value := L.map fun x : Nat => .int .u8 (x : Int)
def BlkB (w : World) (g : Nat) (L : List Nat) : Prop := w.heap[g]? = some (.cells (byteCellsOf L).toArray 5 (0, 0)) ∧ Byt L
theorem BlkB.lt {w : World} {g : Nat} {L : List Nat} (h : BlkB w g L) : g < w.heap.size := (Array.getElem?_eq_some_iff.1 h.1).1
theorem BlkB.cell {w : World} {g : Nat} {L : List Nat} (h : BlkB w g L) (i : Nat) (hi : i < L.length) : w.cell? ⟨g, i, none⟩ = some (.int .u8 ((L.getD i 0 : Nat) : Int)) := by
  simp [World.cell?, h.1, byteCellsOf, hi, List.getD_eq_getElem?_getD]
theorem BlkB.frozen {w : World} {g : Nat} {L : List Nat} (h : BlkB w g L) (i : Nat) : w.frozen? ⟨g, i, none⟩ = false := by
  simp [World.frozen?, h.1]
theorem BlkB.set {w : World} {g : Nat} {L : List Nat} (h : BlkB w g L) (i v : Nat) (hv : v < 256) : BlkB (w.setCell ⟨g, i, none⟩ (.int .u8 (v : Int))) g (L.set i v) := by
  refine ⟨?_, fun x hx => ?_⟩
  · simp only [World.setCell, Array.getElem?_modify, if_true, h.1, Option.map_some]
    simp [byteCellsOf, List.map_set]
  · rcases List.mem_or_eq_of_mem_set hx with hx | rfl
    · exact h.2 x hx
    · exact hv
theorem BlkB.fwd {w w' : World} {g : Nat} {L : List Nat} (h : BlkB w g L) (k : Fwd w w') : BlkB w' g L := ⟨k.blockAt h.1, h.2⟩
theorem BlkB.only {w w' : World} {g b : Nat} {L : List Nat} (h : BlkB w b L) (k : Only g w w') (hne : b ≠ g) : BlkB w' b L := ⟨k.blockAt h.1 hne, h.2⟩
theorem BlkB.made (w : World) (n : Nat) : BlkB (w.alloc (.cells (madeCells #[.int .u8 0] n) 5)) w.heap.size (List.replicate n 0) := by
  refine ⟨?_, fun x hx => by rw [List.mem_replicate] at hx; omega⟩
  rw [heap_alloc_new]
  congr 2
  apply Array.ext'
  rw [toList_madeCells_one]; simp [byteCellsOf]
theorem BlkB.setAt {w : World} {g : Nat} {pre zs post : List Nat} (h : BlkB w g (pre ++ (zs ++ post))) (k : Nat) (hk : k < zs.length) (v : Int) (n : Nat) (hv : v = (n : Int)) (hn : n < 256) :
    BlkB (w.setCell ⟨g, pre.length + k, none⟩ (.int .u8 v)) g (pre ++ (zs.set k n ++ post)) := by
  subst hv
  have := h.set (pre.length + k) n hn
  rwa [List.set_append_right _ _ (by omega), show pre.length + k - pre.length = k by omega, List.set_append_left _ _ hk] at this
theorem BlkB.mid {w : World} {g : Nat} {pre zs post : List Nat} (h : BlkB w g (pre ++ (zs ++ post))) (k : Nat) (hk : k < zs.length) : w.cell? ⟨g, pre.length + k, none⟩ = some (.int .u8 ((zs.getD k 0 : Nat) : Int)) := by
  rw [h.cell _ (by simp; omega), getD_mid _ _ _ _ hk]

theorem info_u8 : (Try.prog.info? 5).map (fun i => (i.zero, i.size, i.bytes)) = some (some (.int .u8 0), 1, 1) := by kernel_rfl

/-! ### Decimal digits -/
/-- What digits say, the first one the greatest. -/
def dval (D : List Nat) : Nat := D.foldl (fun a d => 10 * a + d) 0
theorem dval_snoc (D : List Nat) (d : Nat) : dval (D ++ [d]) = 10 * dval D + d := by simp [dval]
theorem foldl_dec (D : List Nat) (a : Nat) : D.foldl (fun a d => 10 * a + d) a = a * 10 ^ D.length + dval D := by
  induction D generalizing a with
  | nil => simp [dval]
  | cons d D ih =>
    have h1 := ih (10 * a + d)
    have h2 := ih d
    simp only [List.foldl_cons, List.length_cons, Nat.pow_succ, dval, Nat.mul_zero, Nat.zero_add] at *
    rw [h1, h2]; grind
theorem dval_append (D E : List Nat) : dval (D ++ E) = dval D * 10 ^ E.length + dval E := by
  unfold dval; rw [List.foldl_append, foldl_dec]; rfl
theorem dval_cons (d : Nat) (E : List Nat) : dval (d :: E) = d * 10 ^ E.length + dval E := by
  have := dval_append [d] E; simpa [dval] using this


/-- Digits, all below ten. -/
def Dig (D : List Nat) : Prop := ∀ d ∈ D, d < 10

/-- The decimal digits of a number. -/
def decF : Nat → Nat → List Nat
  | 0, n => [n]
  | f + 1, n => if n < 10 then [n] else decF f (n / 10) ++ [n % 10]
def dec (n : Nat) : List Nat := decF n n
theorem decF_any (f : Nat) : ∀ g n, n ≤ f → n ≤ g → decF f n = decF g n := by
  induction f with
  | zero =>
    intro g n h1 h2
    obtain rfl : n = 0 := by omega
    cases g with
    | zero => rfl
    | succ g => simp [decF]
  | succ f ih =>
    intro g n h1 h2
    cases g with
    | zero =>
      obtain rfl : n = 0 := by omega
      simp [decF]
    | succ g =>
      by_cases h0 : n < 10
      · simp only [decF, if_pos h0]
      · simp only [decF, if_neg h0]
        rw [ih g (n / 10) (by omega) (by omega)]

theorem dec_lt {n : Nat} (h : n < 10) : dec n = [n] := by
  unfold dec
  cases n with
  | zero => rfl
  | succ m => simp only [decF, if_pos h]
theorem dec_ge {n : Nat} (h : ¬ n < 10) : dec n = dec (n / 10) ++ [n % 10] := by
  unfold dec
  cases n with
  | zero => exact absurd (by omega) h
  | succ m =>
    simp only [decF, if_neg h]
    rw [decF_any m ((m + 1) / 10) ((m + 1) / 10) (by omega) (by omega)]
theorem dval_dec (n : Nat) : dval (dec n) = n := by
  induction n using Nat.strongRecOn with
  | ind n ih =>
    by_cases h : n < 10
    · rw [dec_lt h]; simp [dval]
    · rw [dec_ge h, dval_snoc, ih (n / 10) (by omega)]; omega
theorem dig_dec (n : Nat) : Dig (dec n) := by
  induction n using Nat.strongRecOn with
  | ind n ih =>
    by_cases h : n < 10
    · rw [dec_lt h]; intro d hd; simp at hd; omega
    · rw [dec_ge h]; intro d hd
      rcases List.mem_append.1 hd with hd | hd
      · exact ih _ (by omega) d hd
      · simp at hd; omega
theorem dec_ne (n : Nat) : dec n ≠ [] := by
  by_cases h : n < 10
  · rw [dec_lt h]; simp
  · rw [dec_ge h]; simp
theorem snoc_ind {P : List Nat → Prop} (D : List Nat) (h0 : P []) (h1 : ∀ D d, P D → P (D ++ [d])) : P D := by
  have h : ∀ E : List Nat, P E.reverse := by
    intro E; induction E with
    | nil => exact h0
    | cons d E ih => rw [List.reverse_cons]; exact h1 _ _ ih
  simpa using h D.reverse

/-- Digits without noughts in front are those of the number that they say. -/
theorem dropZeros_eq (D : List Nat) (hD : Dig D) (h : dval D ≠ 0) : D.dropWhile (· == 0) = dec (dval D) := by
  revert hD h
  refine snoc_ind (P := fun D => Dig D → dval D ≠ 0 → D.dropWhile (· == 0) = dec (dval D)) D ?_ ?_
  · intro _ h; simp [dval] at h
  · intro D d ih hD h
    have hd : d < 10 := hD d (by simp)
    have hD' : Dig D := fun x hx => hD x (by simp [hx])
    rw [dval_snoc] at h ⊢
    by_cases h0 : dval D = 0
    · have hz : ∀ x ∈ D, x = 0 := by
        clear ih hD h
        induction D with
        | nil => simp
        | cons x D ih =>
          rw [dval_cons] at h0
          have hp : 0 < 10 ^ D.length := Nat.pow_pos (by omega)
          have hx0 : x = 0 := by
            rcases Nat.eq_zero_or_pos x with hx | hx
            · exact hx
            · have := Nat.mul_pos hx hp; omega
          intro y hy
          rcases List.mem_cons.1 hy with rfl | hy
          · exact hx0
          · exact ih (fun z hz => hD' z (by simp [hz])) (by omega) y hy
      have hd0 : d ≠ 0 := by omega
      have e : (D ++ [d]).dropWhile (· == 0) = [d] := by
        rw [List.dropWhile_append_of_pos (by intro x hx; simp [hz x hx])]
        simp [hd0]
      rw [e, h0, Nat.mul_zero, Nat.zero_add, dec_lt hd]
    · have ih' := ih hD' h0
      rw [List.dropWhile_append, if_neg (by rw [ih']; simp [dec_ne]), ih', dec_ge (n := 10 * dval D + d) (by omega)]
      rw [show (10 * dval D + d) / 10 = dval D by omega, show (10 * dval D + d) % 10 = d by omega]

/-- ASCII. -/
def asc (D : List Nat) : List Nat := D.map (48 + ·)
/-- A number's text. -/
def textOf (n : Nat) : ByteArray := strOf (asc (dec n))

theorem dropWhile_asc (D : List Nat) : (asc D).dropWhile (· == 48) = asc (D.dropWhile (· == 0)) := by
  induction D with
  | nil => rfl
  | cons d D ih =>
    by_cases h : d = 0
    · subst h; simp only [asc, List.map_cons] at *
      rw [List.dropWhile_cons_of_pos (by simp), List.dropWhile_cons_of_pos (by simp)]; exact ih
    · simp only [asc, List.map_cons] at *
      rw [List.dropWhile_cons_of_neg (by simp; omega), List.dropWhile_cons_of_neg (by simp; omega)]; rfl

end Go.Proofs.Ytimlpehgafjkpaa

namespace Go.Proofs.Ytimlpehgafjkpaa
open Go.RowKit
set_option linter.unusedVariables false

theorem take_nl {xs : List Nat} (h : Ok xs) : xs = lim (val xs) ++ xs.drop (nl (val xs)) := by
  have h1 := take_tlen h
  rw [tlen_lim h] at h1
  rw [← h1]; exact (List.take_append_drop _ _).symm

theorem nl_val_le {xs : List Nat} (h : Ok xs) : nl (val xs) ≤ xs.length := by
  have := tlen_le xs xs.length
  rw [tlen_lim h] at this; exact this

theorem room {n R t d : Nat} (h : n = R * 10 ^ (9 * t) + d) (hR : R ≠ 0) : 9 * t + 9 ≤ 10 * nl n + 9 := by
  have h1 := lt_pow_nl n
  have h2 : 4294967296 ^ nl n ≤ (10 ^ 10) ^ nl n := Nat.pow_le_pow_left (by omega) _
  rw [← Nat.pow_mul] at h2
  have h3 : 1 * 10 ^ (9 * t) ≤ R * 10 ^ (9 * t) := Nat.mul_le_mul_right _ (by omega)
  have h4 : 10 ^ (9 * t) < 10 ^ (10 * nl n) := by omega
  have := (Nat.pow_lt_pow_iff_right (by omega : 1 < 10)).1 h4
  omega

end Go.Proofs.Ytimlpehgafjkpaa

namespace Go.Proofs.Ytimlpehgafjkpaa
open Go.RowKit
set_option linter.unusedVariables false

theorem ownsRow_rd {w : World} {base n : Nat} {v : Value} {xs : List Nat} (hok : Ok xs) (h : w.ownsRow base 22 1 v n (cellsOf xs)) : Rd w v xs := by
  have hl : xs.length = n := by have := h.1; simpa [cellsOf] using this
  subst hl
  refine ⟨hok, ?_⟩
  rcases h.2 with ⟨rfl, h0⟩ | ⟨g, cap, cur, rfl, hb, hg, h1, h2, h3, h4⟩
  · exact .inl ⟨rfl, List.eq_nil_of_length_eq_zero h0⟩
  · refine .inr ⟨g, 0, cap, rfl, h1, h2, fun i hi => ?_, (Array.getElem?_eq_some_iff.1 hg).1⟩
    have e := congrArg (fun l => l[i]?) h4
    simp only [List.getElem?_take, cellsOf] at e
    rw [if_pos (by omega)] at e
    simp [World.cell?, hg]
    simpa [hi] using e

theorem ownsRow_empty (w : World) (g base : Nat) (hb : base ≤ g) (hg : w.heap[g]? = some (.cells #[] 22 (0, 0))) : w.ownsRow base 22 1 (.slice (some ⟨g, 0, none⟩) 0 0) 0 [] :=
  ⟨by simp, .inr ⟨g, 0, #[], rfl, hb, hg, Nat.le_refl _, by simp, by simp, by simp⟩⟩

/-- What comes in: limbs, or none at whatever address. -/
def Arg (w : World) (v : Value) (xs : List Nat) : Prop := Rd w v xs ∨ (xs = [] ∧ ∃ x cap, v = .slice (some x) 0 cap ∧ cap ≤ maxLen)

/-- append([]uint32{}, src...): a new row with what src reads as. -/
theorem law_append0 {w : World} {ops : Array Oper} {rest : List Oper} {o : Oper} {a : Act} {Q : Exit → Act → World → Prop} (hgd : o.guard = none) (s x : Operand)
    (ho : o.op = .call { callee := .builtin .append, args := #[s, x], argTypes := #[27, 27] })
    (g : Nat) (hs : a.eval s = .slice (some ⟨g, 0, none⟩) 0 0) (hg : w.heap[g]? = some (.cells #[] 22 (0, 0)))
    (v : Value) (xs : List Nat) (hx : a.eval x = v) (hv : Arg w v xs) (hlen : xs.length ≤ 1000000000)
    (h : ∀ v' w', Rd w' v' xs → v' ≠ .slice none 0 0 → Only g w w' → (∀ b, v'.ownBlock = some b → g ≤ b) → wpList Try.prog ops Q rest (a.put o.dst v') w') :
    wpList Try.prog ops Q (o :: rest) a w := by
  have hlt : g < w.heap.size := (Array.getElem?_eq_some_iff.1 hg).1
  have hown := ownsRow_empty w g g (Nat.le_refl _) hg
  obtain ⟨i, hi, hz0, hz1, hz2⟩ := info_parts info_u32
  rcases hv with hv | ⟨rfl, xa, cap, rfl, hcm⟩
  case inr =>
    refine wpList_append_own w hgd s x 27 ho g 22 i (.int .u32 0) 1 4 Try.underlying27 hi hz0 hz1 hz2 rfl (by decide) _ 0 [] hs hown xa 0 cap [] hx (by simp) (by simp) (by simp)
      (le_maxLen (by omega)) (by omega) (by omega) ?_
    intro v' w' ho' hgr hnil
    rw [List.nil_append, Nat.zero_add] at ho'
    refine h v' w' (ownsRow_rd Ok.nil (by simpa [cellsOf] using ho')) (by intro e; have := hnil.1 e; simp at this) hgr (fun b hb => (ho'.lt b hb).1)
  rcases hv.2 with ⟨rfl, rfl⟩ | ⟨b, off, cap, rfl, h1, h2, h3, h4⟩
  · refine wpList_append_own_none hgd s x 27 ho g 22 i 1 Try.underlying27 hi _ 0 [] hs hown hx ?_
    refine h _ w ⟨Ok.nil, .inr ⟨g, 0, 0, rfl, Nat.le_refl _, by simp, by simp, hlt⟩⟩ (by simp) (Only.refl _ _) (by intro b hb; simp [Value.ownBlock] at hb; omega)
  · refine wpList_append_own w hgd s x 27 ho g 22 i (.int .u32 0) 1 4 Try.underlying27 hi hz0 hz1 hz2 rfl (by decide) _ 0 [] hs hown ⟨b, off, none⟩ xs.length cap (cellsOf xs) hx (by simp [cellsOf]) ?_ ?_
      (le_maxLen (by omega)) (by omega) (by omega) ?_
    · intro j u hj
      have hjl : j < xs.length := by
        rcases Nat.lt_or_ge j xs.length with hlt | hge
        · exact hlt
        · simp [cellsOf, List.getElem?_eq_none hge] at hj
      have := h3 j hjl
      simp [cellsOf, hjl] at hj
      rw [show (⟨b, off, none⟩ : Addr).add j = ⟨b, off + j, none⟩ from by unfold Addr.add; split <;> simp_all, this, ← hj]
      simp [hjl]
    · intro u hu
      simp only [cellsOf, List.mem_map] at hu
      obtain ⟨x, _, rfl⟩ := hu; rfl
    · intro v' w' ho' hgr hnil
      rw [List.nil_append, Nat.zero_add] at ho'
      refine h v' w' (ownsRow_rd hv.ok ho') (by intro e; have := hnil.1 e; simp at this) hgr (fun b hb => (ho'.lt b hb).1)


/-- A front of what reads as limbs. -/
theorem Rd.front {w : World} {b off cap : Nat} {xs : List Nat} (h : Rd w (.slice (some ⟨b, off, none⟩) xs.length cap) xs) (k : Nat) (hk : k ≤ xs.length) : Rd w (.slice (some ⟨b, off, none⟩) k cap) (xs.take k) := by
  rcases h.2 with ⟨h0, _⟩ | ⟨b', off', cap', e, h1, h2, h3, h4⟩
  · cases h0
  · cases e
    have hl : (xs.take k).length = k := by rw [List.length_take]; omega
    refine ⟨h.1.take k, .inr ⟨b, off, cap, by rw [hl], by omega, h2, fun i hi => ?_, h4⟩⟩
    rw [h3 i (by omega)]
    rw [List.getD_eq_getElem?_getD, List.getD_eq_getElem?_getD, List.getElem?_take, if_pos (by omega)]

/-- How long a slice in a slot is. -/
def sliceLen : Value → Nat | .slice _ n _ => n | _ => 0

end Go.Proofs.Ytimlpehgafjkpaa

namespace Go.Proofs.Ytimlpehgafjkpaa
open Go.RowKit
set_option linter.unusedVariables false

theorem nl_one {n : Nat} (h : n < 4294967296) : nl n ≤ 1 := (nl_le_iff n 1).2 (by simpa using h)
theorem nl_take {xs : List Nat} (h : Ok xs) (k : Nat) : nl (val (xs.take k)) ≤ k := by
  have h1 := nl_val_le (h.take k)
  have h2 : (xs.take k).length ≤ k := by rw [List.length_take]; omega
  omega
theorem Arg.ok {w : World} {v : Value} {xs : List Nat} (h : Arg w v xs) : Ok xs := by
  rcases h with h | ⟨rfl, _⟩
  · exact h.1
  · exact Ok.nil
theorem Arg.fwd {w w' : World} {v : Value} {xs : List Nat} (h : Arg w v xs) (k : Fwd w w') : Arg w' v xs := by
  rcases h with h | h
  · exact .inl (h.fwd k)
  · exact .inr h

/-- Are limbs without a nought on top? -/
def rightB (xs : List Nat) : Bool := xs.length == 0 || xs.getD (xs.length - 1) 0 != 0

theorem rightB_lim (n : Nat) : rightB (lim n) = true := by
  have h := norm_lim n
  unfold rightB
  cases hl : (lim n).length with
  | zero => rfl
  | succ k =>
    rw [Bool.or_eq_true]; right
    unfold Norm at h
    rw [List.getLast?_eq_getElem?, hl] at h
    have hk : k < (lim n).length := by omega
    simp at h ⊢
    intro e
    rw [List.getElem?_eq_getElem hk] at h e
    exact h (by rw [← e]; rfl)

theorem bne_cast (x : Nat) : ((x : Int) != 0) = (x != 0) := by
  rw [Bool.eq_iff_iff]; simp

end Go.Proofs.Ytimlpehgafjkpaa

namespace Go.Proofs.Ytimlpehgafjkpaa
open Go.RowKit
set_option linter.unusedVariables false

theorem top_limb {n : Nat} (h : n ≠ 0) : n / 4294967296 ^ (nl n - 1) = (lim n).getD (nl n - 1) 0 := by
  have hp : nl n = nl (n / 4294967296) + 1 := nl_pos h
  have h1 := val_split (lim n) (nl n - 1) (by show nl n - 1 ≤ nl n; omega)
  have h2 := val_drop_cons (xs := lim n) (k := nl n - 1) (by show nl n - 1 < nl n; omega)
  have h3 : (lim n).drop (nl n - 1 + 1) = [] := List.drop_eq_nil_of_le (by show nl n ≤ _; omega)
  rw [h3, val, Nat.mul_zero, Nat.add_zero] at h2
  rw [val_lim, h2] at h1
  have h4 := val_take_lt (ok_lim n) (nl n - 1)
  generalize 4294967296 ^ (nl n - 1) = P at *
  generalize (lim n).getD (nl n - 1) 0 = t at *
  generalize val ((lim n).take (nl n - 1)) = l at *
  rw [h1, Nat.add_mul_div_left _ _ (by omega), Nat.div_eq_of_lt h4]; omega
theorem pow32 (k : Nat) : 4294967296 ^ k = 2 ^ (32 * k) := by rw [Nat.pow_mul]
theorem blen_limbs {n : Nat} (h : n ≠ 0) : blen n = 32 * (nl n - 1) + blen ((lim n).getD (nl n - 1) 0) := by
  have h1 := nl_ge_pow h
  rw [pow32] at h1
  rw [blen_div n (32 * (nl n - 1)) h1, ← pow32, top_limb h]; omega
theorem blen_nl (n : Nat) : blen n ≤ 32 * nl n := by
  rw [blen_le_iff, ← pow32]; exact lt_pow_nl n

set_option maxHeartbeats 1000000 in
set_option maxRecDepth 100000 in
theorem len32_any (w : World) (x : Nat) (hx : x < 4294967296) : Calls Try.prog 38 #[.int .u32 x] w fun e w' => e = .returned (.int .i64 (blen x)) ∧ w' = w := by
  go_enter Try.func38, Try.ntmps38
  generalize hT : (ByteArray.mk (List.append (List.append _ _) (List.append _ _)).toArray) = T
  have hsz : T.size = 256 := by rw [← hT]; decide +kernel
  have hall : ∀ i : Fin 256, (T[i.val]?).map (·.toNat) = some (blen i.val) := by rw [← hT]; decide +kernel
  clear hT
  have HS := hid hsz
  have HA := hid hall
  clear hsz hall
  have e16 : 65536 ≤ x → blen x = blen (x / 65536) + 16 := fun h => blen_div x 16 h
  have e8 : ∀ y, 256 ≤ y → blen y = blen (y / 256) + 8 := fun y h => blen_div y 8 h
  have E := hid (And.intro e16 e8)
  clear e16 e8
  by_cases h1 : x < 65536
  · by_cases h2 : x < 256
    · have hb : blen x ≤ 8 := (blen_le_iff x 8).2 (by omega)
      have i1 : decide (65536 ≤ (x : Int)) = false := decide_eq_false (by omega)
      have i2 : decide (256 ≤ (x : Int)) = false := decide_eq_false (by omega)
      go_wp2_with (with_reducible refine law_tab (by with_unfolding_all rfl) (.tmp 15) (by with_unfolding_all rfl) HS.out HA.out .u8 _ x (by with_unfolding_all rfl) (by omega) h2 ?_)
      go_ret
      exact ⟨by simp, rfl⟩
    · have hy : x / 256 < 256 := by omega
      have hb : blen (x / 256) ≤ 8 := (blen_le_iff _ 8).2 (by omega)
      have HE := hid (E.out.2 x (by omega))
      have i1 : decide (65536 ≤ (x : Int)) = false := decide_eq_false (by omega)
      have i2 : 256 ≤ (x : Int) := by omega
      go_wp2_with (with_reducible refine law_tab (by with_unfolding_all rfl) (.tmp 15) (by with_unfolding_all rfl) HS.out HA.out .u8 _ (x / 256) (by with_unfolding_all rfl) (by omega) hy ?_)
      go_ret
      exact ⟨ret_int (by rw [HE.out]; omega), rfl⟩
  · by_cases h2 : x / 65536 < 256
    · have hb : blen (x / 65536) ≤ 8 := (blen_le_iff _ 8).2 (by omega)
      have HE := hid (E.out.1 (by omega))
      have i1 : 65536 ≤ (x : Int) := by omega
      have i2 : (x : Int) / 65536 < 256 := by omega
      go_wp2_with (with_reducible refine law_tab (by with_unfolding_all rfl) (.tmp 15) (by with_unfolding_all rfl) HS.out HA.out .u8 _ (x / 65536) (by with_unfolding_all rfl) (by omega) h2 ?_)
      go_ret
      exact ⟨ret_int (by rw [HE.out]; omega), rfl⟩
    · have hy : x / 65536 / 256 < 256 := by omega
      have hb : blen (x / 65536 / 256) ≤ 8 := (blen_le_iff _ 8).2 (by omega)
      have HE := hid ((E.out.1 (by omega)).trans (by rw [E.out.2 (x / 65536) (by omega)]))
      have i1 : 65536 ≤ (x : Int) := by omega
      have i2 : 256 ≤ (x : Int) / 65536 := by omega
      go_wp2_with (with_reducible refine law_tab (by with_unfolding_all rfl) (.tmp 15) (by with_unfolding_all rfl) HS.out HA.out .u8 _ (x / 65536 / 256) (by with_unfolding_all rfl) (by omega) hy ?_)
      go_ret
      exact ⟨ret_int (by rw [HE.out]; omega), rfl⟩

end Go.Proofs.Ytimlpehgafjkpaa
