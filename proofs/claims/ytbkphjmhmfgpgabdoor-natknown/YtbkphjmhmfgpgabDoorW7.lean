/- Contracts of strings.trimLeftByte, strings.TrimLeft at one byte, nat's writeGroup. -/
import Derived.Test.YtbkphjmhmfgpgabDoorW6
import Derived.Lib.Strings
import Derived.Laws.BytesArg
import Derived.Lib.IndexBytes
namespace Go.Proofs.YtbkphjmhmfgpgabDoor
open Go.RowKit
set_option linter.unusedVariables false

/-- Bytes as a string. -/
def strOf (L : List Nat) : ByteArray := ⟨(L.map UInt8.ofNat).toArray⟩
def Byt (L : List Nat) : Prop := ∀ x ∈ L, x < 256
theorem strOf_list (L : List Nat) : (strOf L).data.toList = L.map UInt8.ofNat := rfl
theorem strOf_of {s : ByteArray} {L : List Nat} (h : s.data.toList = L.map UInt8.ofNat) : s = strOf L := by
  cases s with
  | mk d => simp only [strOf]; congr 1; apply Array.ext'; simpa using h

/-- How long a string in a slot is. -/
def strLen : Value → Nat | .string s => s.size | _ => 0

theorem head_byte {s : ByteArray} {x : Nat} {M : List Nat} (h : s.data.toList = (x :: M).map UInt8.ofNat) (hx : x < 256) (h0 : 0 < s.size) : (s[0]'h0).toNat = x := by
  cases s with
  | mk d =>
    have e : d.toList[0]? = some (UInt8.ofNat x) := by
      show (ByteArray.mk d).data.toList[0]? = _
      rw [h]; rfl
    have h0' : 0 < d.size := h0
    have e2 : d[0] = UInt8.ofNat x := by
      rw [Array.getElem?_toList, Array.getElem?_eq_getElem h0'] at e
      exact Option.some.inj e
    show (d[0]).toNat = x
    rw [e2, UInt8.toNat_ofNat']; omega

theorem str_size {s : ByteArray} {M : List Nat} (h : s.data.toList = M.map UInt8.ofNat) : s.size = M.length := by
  have := congrArg List.length h; simpa using this

set_option maxHeartbeats 1000000 in
theorem trimLeftByte_any (w : World) (L : List Nat) (c : Nat) (hL : Byt L) (hl : L.length ≤ 1000000000) (hc : c < 256) :
    Calls Tryd.prog 62 #[.string (strOf L), .int .u8 c] w fun e w' => e = .returned (.string (strOf (L.dropWhile (· == c)))) ∧ w' = w := by
  go_enter Tryd.func62, Tryd.ntmps62
  go_wp2
  go_loop [0] (fun v => ∃ (s : ByteArray) (M : List Nat), v = .string s ∧ s.data.toList = M.map UInt8.ofNat ∧ Byt M ∧ M.length ≤ 1000000000 ∧ M.dropWhile (· == c) = L.dropWhile (· == c)) strLen
  case atStart => exact ⟨strOf L, L, rfl, rfl, hL, hl, rfl⟩
  case round =>
    obtain ⟨s, M, rfl, hs, hM, hMl, hd⟩ := hrel
    have hsz : s.size = M.length := str_size hs
    have H := hid (And.intro hs (And.intro hM hd))
    clear hs hM hd
    cases M with
    | nil =>
      have hs0 : s.size = 0 := hsz
      clear hsz
      go_wp2
      go_ret
      refine ⟨?_, rfl⟩
      rw [← H.out.2.2, List.dropWhile_nil, ← strOf_of H.out.1]; rfl
    | cons x M =>
      have hs1 : 0 < s.size := by rw [hsz]; simp
      have hs2 : s.size ≤ 1000000001 := by rw [hsz]; omega
      have HSZ := hid hsz
      clear hsz
      have hx : x < 256 := H.out.2.1 x (by simp)
      have HH := hid (head_byte H.out.1 hx hs1)
      go_wp2
      · go_round
        case rel =>
          have h0 : (((s[0]).toNat : Int) == c) = true := by assumption
          rw [HH.out] at h0
          refine ⟨_, M, rfl, ?_, fun y hy => H.out.2.1 y (by simp [hy]), by simp at hMl; omega, ?_⟩
          · rw [Lib.extract_to_end, H.out.1]; rfl
          · rw [← H.out.2.2, List.dropWhile_cons_of_pos]
            simp at h0 ⊢; omega
        case measure =>
          show (s.extract 1 s.size).size < s.size
          rw [ByteArray.size_extract]; omega
      · have h0 : (((s[0]).toNat : Int) == c) = false := by assumption
        rw [HH.out] at h0
        go_ret
        refine ⟨?_, rfl⟩
        rw [← H.out.2.2, List.dropWhile_cons_of_neg, ← strOf_of H.out.1]
        · rfl
        · simp at h0 ⊢; omega

set_option maxHeartbeats 1000000 in
set_option maxRecDepth 10000 in
theorem trimLeft_any (w : World) (L : List Nat) (hL : Byt L) (hl : L.length ≤ 1000000000) (h0 : L ≠ []) :
    Calls Tryd.prog 49 #[.string (strOf L), .string ⟨#[48]⟩] w fun e w' => e = .returned (.string (strOf (L.dropWhile (· == 48)))) ∧ w' = w := by
  have hsz : (strOf L).size = L.length := str_size rfl
  have hne : (strOf L).toList.isEmpty = false := by
    rw [ByteArray.toList_eq, strOf_list]
    cases L with
    | nil => exact absurd rfl h0
    | cons x M => rfl
  have hT := hid (trimLeftByte_any w L 48 hL hl (by omega))
  generalize strOf L = s at *
  have HSZ := hid hsz
  clear hsz
  go_enter Tryd.func49, Tryd.ntmps49
  go_wp2_with fail
  have e48 : ∀ h, (((ByteArray.mk #[48])[0]'h).toNat : Int) = ((48 : Nat) : Int) := fun _ => rfl
  rw [e48]
  refine hT.out.mono ?_
  rintro e w1 ⟨rfl, rfl⟩
  go_wp2
  go_ret
  exact ⟨rfl, rfl⟩

/-! ### Rows of bytes -/
def byteCellsOf (L : List Nat) : List Value := L.map fun x : Nat => .int .u8 (x : Int)
def BlkB (w : World) (g : Nat) (L : List Nat) : Prop := w.heap[g]? = some (.cells (byteCellsOf L).toArray 5 (0, 0)) ∧ Byt L
theorem BlkB.lt {w : World} {g : Nat} {L : List Nat} (h : BlkB w g L) : g < w.heap.size := (Array.getElem?_eq_some_iff.1 h.1).1
theorem BlkB.cell {w : World} {g : Nat} {L : List Nat} (h : BlkB w g L) (i : Nat) (hi : i < L.length) : w.cell? ⟨g, i, none⟩ = some (.int .u8 ((L.getD i 0 : Nat) : Int)) := by
  simp [World.cell?, h.1, byteCellsOf, hi, List.getD_eq_getElem?_getD]
theorem BlkB.frozen {w : World} {g : Nat} {L : List Nat} (h : BlkB w g L) (i : Nat) : w.frozen? ⟨g, i, none⟩ = false := by
  simp [World.frozen?, h.1]
theorem BlkB.set {w : World} {g : Nat} {L : List Nat} (h : BlkB w g L) (i v : Nat) (hv : v < 256) : BlkB (w.setCell ⟨g, i, none⟩ (.int .u8 (v : Int))) g (L.set i v) := by
  refine ⟨?_, fun x hx => ?_⟩
  · simp only [World.setCell, Array.getElem?_modify, if_true, h.1, Option.map_some]
    simp [byteCellsOf, List.map_set]
  · rcases List.mem_or_eq_of_mem_set hx with hx | rfl
    · exact h.2 x hx
    · exact hv
theorem BlkB.fwd {w w' : World} {g : Nat} {L : List Nat} (h : BlkB w g L) (k : Fwd w w') : BlkB w' g L := ⟨k.blockAt h.1, h.2⟩
theorem BlkB.only {w w' : World} {g b : Nat} {L : List Nat} (h : BlkB w b L) (k : Only g w w') (hne : b ≠ g) : BlkB w' b L := ⟨k.blockAt h.1 hne, h.2⟩
theorem BlkB.made (w : World) (n : Nat) : BlkB (w.alloc (.cells (madeCells #[.int .u8 0] n) 5)) w.heap.size (List.replicate n 0) := by
  refine ⟨?_, fun x hx => by rw [List.mem_replicate] at hx; omega⟩
  rw [heap_alloc_new]
  congr 2
  apply Array.ext'
  rw [toList_madeCells_one]; simp [byteCellsOf]
theorem BlkB.setAt {w : World} {g : Nat} {pre zs post : List Nat} (h : BlkB w g (pre ++ (zs ++ post))) (k : Nat) (hk : k < zs.length) (v : Int) (n : Nat) (hv : v = (n : Int)) (hn : n < 256) :
    BlkB (w.setCell ⟨g, pre.length + k, none⟩ (.int .u8 v)) g (pre ++ (zs.set k n ++ post)) := by
  subst hv
  have := h.set (pre.length + k) n hn
  rwa [List.set_append_right _ _ (by omega), show pre.length + k - pre.length = k by omega, List.set_append_left _ _ hk] at this
theorem BlkB.mid {w : World} {g : Nat} {pre zs post : List Nat} (h : BlkB w g (pre ++ (zs ++ post))) (k : Nat) (hk : k < zs.length) : w.cell? ⟨g, pre.length + k, none⟩ = some (.int .u8 ((zs.getD k 0 : Nat) : Int)) := by
  rw [h.cell _ (by simp; omega), getD_mid _ _ _ _ hk]

theorem info_u8 : (Tryd.prog.info? 5).map (fun i => (i.zero, i.size, i.bytes)) = some (some (.int .u8 0), 1, 1) := by kernel_rfl

/-- make([]byte, n). -/
theorem law_makeB {w : World} {ops : Array Oper} {rest : List Oper} {o : Oper} {a : Act} {Q : Exit → Act → World → Prop}
    (hg : o.guard = none) (l c : Operand) (hop : o.op = Op.makeSlice 57 l c) (kl kc : IntKind) (L C : Int) (n : Nat) (hl : a.eval l = .int kl L) (hc : a.eval c = .int kc C)
    (hL : L = (n : Int)) (hC : C = (n : Int)) (hn : n ≤ 70368744177664)
    (hK : ∀ w', BlkB w' w.heap.size (List.replicate n 0) → Fwd w w' → wpList Tryd.prog ops Q rest (a.put o.dst (.slice (some ⟨w.heap.size, 0, none⟩) n n)) w') :
    wpList Tryd.prog ops Q (o :: rest) a w := by
  subst hL hC
  obtain ⟨i, hi, hz0, hz1, hz2⟩ := info_parts info_u8
  exact wpList_make_row w hg l c 57 hop 5 i (.int .u8 0) Tryd.underlying57 hi hz0 hz1 rfl kl kc n hl hc (by rw [hz2]; omega) (by omega) (hK _ (BlkB.made w n) ((Fwd.refl w).alloc _))

/-! ### Decimal digits -/
/-- What digits say, the first one the greatest. -/
def dval (D : List Nat) : Nat := D.foldl (fun a d => 10 * a + d) 0
theorem dval_snoc (D : List Nat) (d : Nat) : dval (D ++ [d]) = 10 * dval D + d := by simp [dval]
theorem foldl_dec (D : List Nat) (a : Nat) : D.foldl (fun a d => 10 * a + d) a = a * 10 ^ D.length + dval D := by
  induction D generalizing a with
  | nil => simp [dval]
  | cons d D ih =>
    have h1 := ih (10 * a + d)
    have h2 := ih d
    simp only [List.foldl_cons, List.length_cons, Nat.pow_succ, dval, Nat.mul_zero, Nat.zero_add] at *
    rw [h1, h2]; grind
theorem dval_append (D E : List Nat) : dval (D ++ E) = dval D * 10 ^ E.length + dval E := by
  unfold dval; rw [List.foldl_append, foldl_dec]; rfl
theorem dval_cons (d : Nat) (E : List Nat) : dval (d :: E) = d * 10 ^ E.length + dval E := by
  have := dval_append [d] E; simpa [dval] using this


/-- Digits, all below ten. -/
def Dig (D : List Nat) : Prop := ∀ d ∈ D, d < 10

/-- The decimal digits of a number. -/
def decF : Nat → Nat → List Nat
  | 0, n => [n]
  | f + 1, n => if n < 10 then [n] else decF f (n / 10) ++ [n % 10]
def dec (n : Nat) : List Nat := decF n n
theorem decF_any (f : Nat) : ∀ g n, n ≤ f → n ≤ g → decF f n = decF g n := by
  induction f with
  | zero =>
    intro g n h1 h2
    obtain rfl : n = 0 := by omega
    cases g with
    | zero => rfl
    | succ g => simp [decF]
  | succ f ih =>
    intro g n h1 h2
    cases g with
    | zero =>
      obtain rfl : n = 0 := by omega
      simp [decF]
    | succ g =>
      by_cases h0 : n < 10
      · simp only [decF, if_pos h0]
      · simp only [decF, if_neg h0]
        rw [ih g (n / 10) (by omega) (by omega)]

theorem dec_lt {n : Nat} (h : n < 10) : dec n = [n] := by
  unfold dec
  cases n with
  | zero => rfl
  | succ m => simp only [decF, if_pos h]
theorem dec_ge {n : Nat} (h : ¬ n < 10) : dec n = dec (n / 10) ++ [n % 10] := by
  unfold dec
  cases n with
  | zero => exact absurd (by omega) h
  | succ m =>
    simp only [decF, if_neg h]
    rw [decF_any m ((m + 1) / 10) ((m + 1) / 10) (by omega) (by omega)]
theorem dval_dec (n : Nat) : dval (dec n) = n := by
  induction n using Nat.strongRecOn with
  | ind n ih =>
    by_cases h : n < 10
    · rw [dec_lt h]; simp [dval]
    · rw [dec_ge h, dval_snoc, ih (n / 10) (by omega)]; omega
theorem dig_dec (n : Nat) : Dig (dec n) := by
  induction n using Nat.strongRecOn with
  | ind n ih =>
    by_cases h : n < 10
    · rw [dec_lt h]; intro d hd; simp at hd; omega
    · rw [dec_ge h]; intro d hd
      rcases List.mem_append.1 hd with hd | hd
      · exact ih _ (by omega) d hd
      · simp at hd; omega
theorem dec_ne (n : Nat) : dec n ≠ [] := by
  by_cases h : n < 10
  · rw [dec_lt h]; simp
  · rw [dec_ge h]; simp
theorem snoc_ind {P : List Nat → Prop} (D : List Nat) (h0 : P []) (h1 : ∀ D d, P D → P (D ++ [d])) : P D := by
  have h : ∀ E : List Nat, P E.reverse := by
    intro E; induction E with
    | nil => exact h0
    | cons d E ih => rw [List.reverse_cons]; exact h1 _ _ ih
  simpa using h D.reverse

/-- Digits without noughts in front are those of the number that they say. -/
theorem dropZeros_eq (D : List Nat) (hD : Dig D) (h : dval D ≠ 0) : D.dropWhile (· == 0) = dec (dval D) := by
  revert hD h
  refine snoc_ind (P := fun D => Dig D → dval D ≠ 0 → D.dropWhile (· == 0) = dec (dval D)) D ?_ ?_
  · intro _ h; simp [dval] at h
  · intro D d ih hD h
    have hd : d < 10 := hD d (by simp)
    have hD' : Dig D := fun x hx => hD x (by simp [hx])
    rw [dval_snoc] at h ⊢
    by_cases h0 : dval D = 0
    · have hz : ∀ x ∈ D, x = 0 := by
        clear ih hD h
        induction D with
        | nil => simp
        | cons x D ih =>
          rw [dval_cons] at h0
          have hp : 0 < 10 ^ D.length := Nat.pow_pos (by omega)
          have hx0 : x = 0 := by
            rcases Nat.eq_zero_or_pos x with hx | hx
            · exact hx
            · have := Nat.mul_pos hx hp; omega
          intro y hy
          rcases List.mem_cons.1 hy with rfl | hy
          · exact hx0
          · exact ih (fun z hz => hD' z (by simp [hz])) (by omega) y hy
      have hd0 : d ≠ 0 := by omega
      have e : (D ++ [d]).dropWhile (· == 0) = [d] := by
        rw [List.dropWhile_append_of_pos (by intro x hx; simp [hz x hx])]
        simp [hd0]
      rw [e, h0, Nat.mul_zero, Nat.zero_add, dec_lt hd]
    · have ih' := ih hD' h0
      rw [List.dropWhile_append, if_neg (by rw [ih']; simp [dec_ne]), ih', dec_ge (n := 10 * dval D + d) (by omega)]
      rw [show (10 * dval D + d) / 10 = dval D by omega, show (10 * dval D + d) % 10 = d by omega]

/-- ASCII. -/
def asc (D : List Nat) : List Nat := D.map (48 + ·)
/-- A number's text. -/
def textOf (n : Nat) : ByteArray := strOf (asc (dec n))

theorem dropWhile_asc (D : List Nat) : (asc D).dropWhile (· == 48) = asc (D.dropWhile (· == 0)) := by
  induction D with
  | nil => rfl
  | cons d D ih =>
    by_cases h : d = 0
    · subst h; simp only [asc, List.map_cons] at *
      rw [List.dropWhile_cons_of_pos (by simp), List.dropWhile_cons_of_pos (by simp)]; exact ih
    · simp only [asc, List.map_cons] at *
      rw [List.dropWhile_cons_of_neg (by simp; omega), List.dropWhile_cons_of_neg (by simp; omega)]; rfl

set_option maxHeartbeats 1000000 in
/-- writeGroup: the low digits of a number, as many as there is room for. -/
theorem writeGroup_any {w : World} {len off g cap n : Nat} {pre xs post : List Nat} (hb : BlkB w g (pre ++ (xs ++ post))) (hlen : len = xs.length) (hofs : off = pre.length) (hcap : xs.length ≤ cap) (hcm : cap ≤ maxLen)
    (hs : xs.length ≤ 1000000000) (hn : n < 4294967296) :
    Calls Tryd.prog 48 #[.slice (some ⟨g, off, none⟩) len cap, .int .u32 n] w fun e w' =>
      e = .returned (.tuple #[]) ∧ ∃ (D : List Nat), Dig D ∧ D.length = xs.length ∧ dval D = n % 10 ^ xs.length ∧ BlkB w' g (pre ++ (asc D ++ post)) ∧ Only g w w' := by
  subst hlen hofs
  unfold maxLen at hcm
  go_enter Tryd.func48, Tryd.ntmps48
  go_wp2
  go_loopw [1, 4] (fun gv i wr => ∃ (k gn : Nat) (D : List Nat), k ≤ xs.length ∧ i = .int .i64 ((k : Int) - 1) ∧ gv = .int .u32 gn ∧ gn < 4294967296 ∧ gn = n / 10 ^ D.length ∧ Dig D ∧ D.length + k = xs.length ∧ dval D = n % 10 ^ D.length ∧ BlkB wr g (pre ++ ((xs.take k ++ asc D) ++ post)) ∧ Only g w wr)
    (fun _ i _ => (intOf i + 1).toNat)
  case atStart => exact ⟨xs.length, n, [], by omega, rfl, rfl, hn, by simp, (by intro d hd; cases hd), by simp, by simp [dval, Nat.mod_one], by simpa [asc] using hb, Only.refl _ _⟩
  case round =>
    obtain ⟨k, gn, D, hk, rfl, rfl, hg, hgn, hD, hDl, hdv, hbl, hon⟩ := hrel
    have H := hid (And.intro hgn (And.intro hD (And.intro hDl (And.intro hdv (And.intro hbl hon)))))
    clear hgn hD hDl hdv hbl hon
    cases k with
    | zero =>
      go_wp2
      go_returns
      obtain ⟨q1, q2, q3, q4, q5, q6⟩ := H.out
      have hl : D.length = xs.length := by omega
      refine ⟨rfl, D, q2, hl, by rw [← hl]; exact q4, by simpa using q5, q6⟩
    | succ k =>
      have hal : (asc D).length = D.length := by simp [asc]
      have hzl : (xs.take (k + 1) ++ asc D).length = xs.length := by
        rw [List.length_append, hal, List.length_take]; have := H.out.2.2.1; omega
      have hzk := H.out.2.2.2.2.1.mid k (by rw [hzl]; omega)
      have hfz := H.out.2.2.2.2.1.frozen (pre.length + k)
      have HZL := hid hzl
      clear hal hzl
      go_wp2
      go_roundw
      case rel =>
        obtain ⟨q1, q2, q3, q4, q5, q6⟩ := H.out
        have hb3 := q5.setAt k (by rw [HZL.out]; omega) (48 + (gn : Int) % 10) (48 + gn % 10) (by omega) (by omega)
        have e1 : (xs.take (k + 1) ++ asc D).set k (48 + gn % 10) = xs.take k ++ asc (gn % 10 :: D) := by
          rw [List.take_succ_eq_append_getElem (by omega), List.append_assoc, List.set_append_right _ _ (by rw [List.length_take]; omega)]
          rw [show k - (xs.take k).length = 0 by rw [List.length_take]; omega]
          rfl
        rw [e1] at hb3
        refine ⟨k, gn / 10, gn % 10 :: D, by omega, by go_num, by go_num, by omega, ?_, ?_, by simp; omega, ?_, hb3, q6.setv _ _⟩
        · rw [q1, List.length_cons, Nat.pow_succ, Nat.div_div_eq_div_mul]
        · intro d hd
          rcases List.mem_cons.1 hd with rfl | hd
          · omega
          · exact q2 d hd
        · rw [dval_cons, q4, List.length_cons, Nat.pow_succ, Nat.mod_mul, ← q1]; grind
      case measure => simp [intOf] <;> omega

end Go.Proofs.YtbkphjmhmfgpgabDoor
