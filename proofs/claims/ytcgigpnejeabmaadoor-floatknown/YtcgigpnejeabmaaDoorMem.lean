/- Memory as the proofs speak of it: a slice of uint32 that reads as limbs ('Rd'), a row of uint32 that the call itself made ('Blk'), worlds in which nothing old has turned ('Fwd'), and the walk's laws for make, copy and append over these. -/
import Derived.Test.YtcgigpnejeabmaaDoorChecked
import Derived.Test.YtcgigpnejeabmaaDoorLimbs
import Derived.WalkKit
import Derived.WalkLawsBesides
import Derived.WalkSpells
import Derived.Handy
import Derived.Laws.CopyOwn
import Derived.Laws.BitsAllLaws
import Derived.Deep.OwnRows
import Derived.Deep.Draws
namespace Go.Proofs.YtcgigpnejeabmaaDoor
open Go.RowKit
set_option linter.unusedVariables false

theorem hid {p : Prop} (h : p) : Hid p := h

/-- Nothing that was there has turned. -/
def Fwd (w w' : World) : Prop := Below w.heap.size w w'
theorem Fwd.refl (w : World) : Fwd w w := Below.refl _ _
theorem Fwd.size {w w' : World} (h : Fwd w w') : w.heap.size ≤ w'.heap.size := Below.size h
theorem Fwd.trans {a b c : World} (h : Fwd a b) (k : Fwd b c) : Fwd a c := Below.trans h (Below.mono k h.size)
theorem Fwd.alloc {a w : World} (h : Fwd a w) (o : Obj) : Fwd a (w.alloc o) := Below.alloc h h.size o
theorem Fwd.drew {a w : World} (h : Fwd a w) : Fwd a w.drew := Below.drew h
theorem Fwd.drewN {a w : World} (h : Fwd a w) (n : Nat) : Fwd a (w.drewN n) := ⟨h.os, h.tape, h.output, h.size, h.block⟩
theorem Fwd.below {w w' : World} (h : Fwd w w') : Below w.heap.size w w' := h
theorem Fwd.cell {w w' : World} (h : Fwd w w') {p : Addr} {v : Value} (hp : w.cell? p = some v) : w'.cell? p = some v :=
  (Below.cell h (World.block_lt_of_cell? w p hp)).trans hp
theorem Fwd.blockAt {w w' : World} (h : Fwd w w') {g : Nat} {o : Obj} (hp : w.heap[g]? = some o) : w'.heap[g]? = some o :=
  (Below.block h g (Array.getElem?_eq_some_iff.1 hp).1).trans hp

/-- Beside new blocks one block alone may have turned. -/
def Only (g : Nat) (w w' : World) : Prop := w.grownBy w' (some g)
theorem Only.refl (g : Nat) (w : World) : Only g w w := World.grownBy.refl _ _
theorem Only.size {g : Nat} {w w' : World} (h : Only g w w') : w.heap.size ≤ w'.heap.size := World.grownBy.size h
theorem Only.trans {g : Nat} {a b c : World} (h : Only g a b) (k : Only g b c) : Only g a c :=
  ⟨k.os.trans h.os, k.tape.trans h.tape, k.output.trans h.output, Nat.le_trans h.size k.size, fun i hi he => (k.block i (Nat.lt_of_lt_of_le hi h.size) he).trans (h.block i hi he)⟩
theorem Fwd.only {w w' : World} (h : Fwd w w') (g : Nat) : Only g w w' := ⟨h.os, h.tape, h.output, h.size, fun k hk _ => h.block k hk⟩
/-- What was written lies in a block of the call's own. -/
theorem Fwd.wrote {a w w' : World} {g : Nat} (h : Fwd a w) (k : Only g w w') (hg : a.heap.size ≤ g) : Fwd a w' :=
  Below.grown h k h.size (fun i e => by simp at e; omega)
theorem Only.set (g : Nat) (w : World) (i : Nat) (v : Value) : Only g w (w.setCell ⟨g, i, none⟩ v) :=
  ⟨rfl, rfl, rfl, by simp [World.setCell], fun k _ he => Below.heap_setCell _ _ _ _ (by simp at he; omega)⟩
theorem Only.blockAt {g : Nat} {w w' : World} (h : Only g w w') {b : Nat} {o : Obj} (hp : w.heap[b]? = some o) (hne : b ≠ g) : w'.heap[b]? = some o :=
  (h.block b (Array.getElem?_eq_some_iff.1 hp).1 (by simp [hne])).trans hp
theorem Only.cell {g : Nat} {w w' : World} (h : Only g w w') {p : Addr} {v : Value} (hp : w.cell? p = some v) (hne : p.block ≠ g) : w'.cell? p = some v :=
  World.grownBy.cell h hp (by simp [hne])
theorem Only.drew {g : Nat} {a w : World} (h : Only g a w) : Only g a w.drew := ⟨h.os, h.tape, h.output, h.size, h.block⟩

/-- Limbs as cells. -/
def cellsOf (L : List Nat) : List Value := L.map fun x : Nat => .int .u32 (x : Int)

/-- Block g is a row of uint32, not frozen, that holds L. -/
def Blk (w : World) (g : Nat) (L : List Nat) : Prop := w.heap[g]? = some (.cells (cellsOf L).toArray 75 (0, 0)) ∧ Ok L

theorem Blk.lt {w : World} {g : Nat} {L : List Nat} (h : Blk w g L) : g < w.heap.size := (Array.getElem?_eq_some_iff.1 h.1).1
theorem Blk.cell {w : World} {g : Nat} {L : List Nat} (h : Blk w g L) (i : Nat) (hi : i < L.length) : w.cell? ⟨g, i, none⟩ = some (.int .u32 ((L.getD i 0 : Nat) : Int)) := by
  simp [World.cell?, h.1, cellsOf, hi, List.getD_eq_getElem?_getD]
theorem Blk.frozen {w : World} {g : Nat} {L : List Nat} (h : Blk w g L) (i : Nat) : w.frozen? ⟨g, i, none⟩ = false := by
  simp [World.frozen?, h.1]
theorem Blk.set {w : World} {g : Nat} {L : List Nat} (h : Blk w g L) (i v : Nat) (hv : v < 4294967296) : Blk (w.setCell ⟨g, i, none⟩ (.int .u32 (v : Int))) g (L.set i v) := by
  refine ⟨?_, h.2.set i v hv⟩
  simp only [World.setCell, Array.getElem?_modify, if_true, h.1, Option.map_some]
  simp [cellsOf, List.map_set]
theorem Blk.fwd {w w' : World} {g : Nat} {L : List Nat} (h : Blk w g L) (k : Fwd w w') : Blk w' g L := ⟨k.blockAt h.1, h.2⟩
theorem Blk.only {w w' : World} {g b : Nat} {L : List Nat} (h : Blk w b L) (k : Only g w w') (hne : b ≠ g) : Blk w' b L := ⟨k.blockAt h.1 hne, h.2⟩
theorem Blk.made (w : World) (n : Nat) : Blk (w.alloc (.cells (madeCells #[.int .u32 0] n) 75)) w.heap.size (List.replicate n 0) := by
  refine ⟨?_, Ok.replicate n⟩
  rw [heap_alloc_new]
  congr 2
  apply Array.ext'
  rw [toList_madeCells_one]; simp [cellsOf]

theorem Blk.lit (w : World) (L : List Nat) (h : Ok L) (o : Array Value) (ho : o = (cellsOf L).toArray) : Blk (w.alloc (.cells o 75)) w.heap.size L := by
  subst ho
  exact ⟨heap_alloc_new w _, h⟩
theorem Blk.setAt {w : World} {g : Nat} {pre zs post : List Nat} (h : Blk w g (pre ++ (zs ++ post))) (k : Nat) (hk : k < zs.length) (v : Int) (n : Nat) (hv : v = (n : Int)) (hn : n < 4294967296) :
    Blk (w.setCell ⟨g, pre.length + k, none⟩ (.int .u32 v)) g (pre ++ (zs.set k n ++ post)) := by
  subst hv
  have := h.set (pre.length + k) n hn
  rwa [List.set_append_right _ _ (by omega), show pre.length + k - pre.length = k by omega, List.set_append_left _ _ hk] at this
theorem Only.setv {g : Nat} {w wr : World} (h : Only g w wr) (i : Nat) (v : Value) : Only g w (wr.setCell ⟨g, i, none⟩ v) := h.trans (Only.set g wr i v)
theorem Blk.mid {w : World} {g : Nat} {pre zs post : List Nat} (h : Blk w g (pre ++ (zs ++ post))) (k : Nat) (hk : k < zs.length) : w.cell? ⟨g, pre.length + k, none⟩ = some (.int .u32 ((zs.getD k 0 : Nat) : Int)) := by
  rw [h.cell _ (by simp; omega), getD_mid _ _ _ _ hk]
theorem Blk.okMid {w : World} {g : Nat} {pre zs post : List Nat} (h : Blk w g (pre ++ (zs ++ post))) : Ok zs := fun x hx => h.2 x (by simp [hx])

/-- The slice v reads as the limbs xs. -/
def Rd (w : World) (v : Value) (xs : List Nat) : Prop :=
  Ok xs ∧ ((v = .slice none 0 0 ∧ xs = []) ∨
    ∃ b off cap, v = .slice (some ⟨b, off, none⟩) xs.length cap ∧ xs.length ≤ cap ∧ cap ≤ maxLen ∧ (∀ i, i < xs.length → w.cell? ⟨b, off + i, none⟩ = some (.int .u32 ((xs.getD i 0 : Nat) : Int))) ∧ b < w.heap.size)

/-- Block g is none of v's. -/
def Off (v : Value) (g : Nat) : Prop := v.ownBlock ≠ some g

theorem Rd.ok {w : World} {v : Value} {xs : List Nat} (h : Rd w v xs) : Ok xs := h.1
theorem Rd.fwd {w w' : World} {v : Value} {xs : List Nat} (h : Rd w v xs) (k : Fwd w w') : Rd w' v xs := by
  refine ⟨h.1, ?_⟩
  rcases h.2 with h | ⟨b, off, cap, hv, h1, h2, h3, h4⟩
  · exact .inl h
  · exact .inr ⟨b, off, cap, hv, h1, h2, fun i hi => k.cell (h3 i hi), Nat.lt_of_lt_of_le h4 k.size⟩
theorem Rd.only {w w' : World} {g : Nat} {v : Value} {xs : List Nat} (h : Rd w v xs) (k : Only g w w') (ho : Off v g) : Rd w' v xs := by
  refine ⟨h.1, ?_⟩
  rcases h.2 with h | ⟨b, off, cap, rfl, h1, h2, h3, h4⟩
  · exact .inl h
  · exact .inr ⟨b, off, cap, rfl, h1, h2, fun i hi => k.cell (h3 i hi) (by intro e; apply ho; simp at e; simp [Value.ownBlock, e]), Nat.lt_of_lt_of_le h4 k.size⟩
/-- A block that is not there yet is none of v's. -/
theorem Rd.off {w : World} {g : Nat} {v : Value} {xs : List Nat} (h : Rd w v xs) (hg : w.heap.size ≤ g) : Off v g := by
  rcases h.2 with ⟨rfl, _⟩ | ⟨b, off, cap, rfl, h1, h2, h3, h4⟩
  · simp [Off, Value.ownBlock]
  · simp [Off, Value.ownBlock]; omega
theorem Rd.nil (w : World) : Rd w (.slice none 0 0) [] := ⟨Ok.nil, .inl ⟨rfl, rfl⟩⟩
/-- A piece of a row. -/
theorem Blk.rd {w : World} {g : Nat} {pre xs post : List Nat} (h : Blk w g (pre ++ (xs ++ post))) (cap : Nat) (h1 : xs.length ≤ cap) (h2 : cap ≤ maxLen) :
    Rd w (.slice (some ⟨g, pre.length, none⟩) xs.length cap) xs := by
  refine ⟨fun x hx => h.2 x (by simp [hx]), .inr ⟨g, pre.length, cap, rfl, h1, h2, fun i hi => ?_, h.lt⟩⟩
  rw [h.cell _ (by simp; omega)]
  have e : ¬ pre.length + i < pre.length := by omega
  simp [List.getElem?_append, hi, e]
theorem Blk.rd0 {w : World} {g : Nat} {xs post : List Nat} (h : Blk w g (xs ++ post)) (cap : Nat) (h1 : xs.length ≤ cap) (h2 : cap ≤ maxLen) :
    Rd w (.slice (some ⟨g, 0, none⟩) xs.length cap) xs := Blk.rd (pre := []) h cap h1 h2
theorem Blk.rdAll {w : World} {g : Nat} {xs : List Nat} (h : Blk w g xs) (cap : Nat) (h1 : xs.length ≤ cap) (h2 : cap ≤ maxLen) :
    Rd w (.slice (some ⟨g, 0, none⟩) xs.length cap) xs := Blk.rd0 (post := []) (by simpa using h) cap h1 h2

/-- What v has is no older than w. -/
def New (w : World) (v : Value) : Prop := ∀ b, v.ownBlock = some b → w.heap.size ≤ b
theorem New.off {w : World} {v : Value} {g : Nat} (h : New w v) (hg : g < w.heap.size) : Off v g := by
  intro e; have := h g e; omega
theorem New.up {w w1 : World} {v : Value} (h : New w1 v) (k : Fwd w w1) : New w v := fun b hb => Nat.le_trans k.size (h b hb)

/-- The slice v is the natural number n. -/
def Num (w : World) (v : Value) (n : Nat) : Prop := Rd w v (lim n)
theorem Num.fwd {w w' : World} {v : Value} {n : Nat} (h : Num w v n) (k : Fwd w w') : Num w' v n := Rd.fwd h k
theorem Num.drew {w : World} {v : Value} {n : Nat} (h : Num w v n) : Num w.drew v n := h

theorem info_u32 : (Tryd.prog.info? 75).map (fun i => (i.zero, i.size, i.bytes)) = some (some (.int .u32 0), 1, 4) := by kernel_rfl
theorem size_u32 : (Tryd.prog.info? 75).map (·.size) = some 1 := by kernel_rfl

theorem splice_append {pre xs post cs : List Nat} (h : cs.length ≤ xs.length) : splice (cellsOf (pre ++ (xs ++ post))) pre.length (cellsOf cs) = cellsOf (pre ++ ((cs ++ xs.drop cs.length) ++ post)) := by
  unfold splice cellsOf
  have e1 : (List.map (fun x : Nat => Value.int .u32 (x : Int)) (pre ++ (xs ++ post))).take pre.length = List.map (fun x : Nat => Value.int .u32 (x : Int)) pre := by
    rw [← List.map_take]; simp
  have e2 : (List.map (fun x : Nat => Value.int .u32 (x : Int)) (pre ++ (xs ++ post))).drop (pre.length + (List.map (fun x : Nat => Value.int .u32 (x : Int)) cs).length) = List.map (fun x : Nat => Value.int .u32 (x : Int)) (xs.drop cs.length ++ post) := by
    rw [← List.map_drop]
    congr 1
    rw [List.drop_append, List.length_map]
    rw [List.drop_eq_nil_of_le (by omega), show pre.length + cs.length - pre.length = cs.length by omega, List.drop_append, Nat.sub_eq_zero_of_le h]
    simp
  rw [e1, e2]; simp

/-- What a difference of limbs, in 64 bits, leaves as a limb and as a borrow. -/
theorem sub_wrap (x c y : Nat) (hx : x < 4294967296) (hc : c ≤ 1) (hy : y < 4294967296) :
    ∃ r c' : Nat, r < 4294967296 ∧ c' ≤ 1 ∧ x + c' * 4294967296 = r + (c + y) ∧ IntKind.u64.wrap (IntKind.u64.wrap ((x : Int) - c) - y) / 9223372036854775808 = (c' : Int) ∧ IntKind.u64.wrap (IntKind.u64.wrap ((x : Int) - c) - y) % 4294967296 = (r : Int) := by
  rw [IntKind.wrap_u64, IntKind.wrap_u64]
  by_cases h : x < c + y
  · exact ⟨x + 4294967296 - c - y, 1, by omega, by omega, by omega, by omega, by omega⟩
  · exact ⟨x - c - y, 0, by omega, by omega, by omega, by omega, by omega⟩
theorem sub_wrap0 (x c : Nat) (hx : x < 4294967296) (hc : c ≤ 1) :
    ∃ r c' : Nat, r < 4294967296 ∧ c' ≤ 1 ∧ x + c' * 4294967296 = r + (c + 0) ∧ IntKind.u64.wrap ((x : Int) - c) / 9223372036854775808 = (c' : Int) ∧ IntKind.u64.wrap ((x : Int) - c) % 4294967296 = (r : Int) := by
  rw [IntKind.wrap_u64]
  by_cases h : x < c
  · exact ⟨x + 4294967296 - c, 1, by omega, by omega, by omega, by omega, by omega⟩
  · exact ⟨x - c, 0, by omega, by omega, by omega, by omega, by omega⟩

/-- Two limbs joined. -/
theorem or_join (a b : Nat) (ha : a < 4294967296) (hb : b < 4294967296) : bits .or .u64 ((a : Int) * 4294967296) (b : Int) = ((a * 4294967296 + b : Nat) : Int) := by
  rw [show (a : Int) * 4294967296 = ((a * 4294967296 : Nat) : Int) by simp, u64_or_nat _ _ (by omega) (by omega), nat_join 32 _ _ (by omega) (by omega)]

theorem sub_wrap2 (x y c : Nat) (hx : x < 4294967296) (hc : c ≤ 1) (hy : y < 4294967296) :
    ∃ r c' : Nat, r < 4294967296 ∧ c' ≤ 1 ∧ x + c' * 4294967296 = r + (c + y) ∧ IntKind.u64.wrap (IntKind.u64.wrap ((x : Int) - y) - c) / 9223372036854775808 = (c' : Int) ∧ IntKind.u64.wrap (IntKind.u64.wrap ((x : Int) - y) - c) % 4294967296 = (r : Int) := by
  rw [IntKind.wrap_u64, IntKind.wrap_u64]
  by_cases h : x < c + y
  · exact ⟨x + 4294967296 - c - y, 1, by omega, by omega, by omega, by omega, by omega⟩
  · exact ⟨x - c - y, 0, by omega, by omega, by omega, by omega, by omega⟩

end Go.Proofs.YtcgigpnejeabmaaDoor
