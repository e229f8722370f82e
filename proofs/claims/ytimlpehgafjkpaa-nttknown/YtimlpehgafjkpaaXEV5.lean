/- A reader of closed calls: operations that make or write memory. -/
import Derived.Test.YtimlpehgafjkpaaXEV4
namespace Go.Ev
open Go.RowKit
set_option linter.unusedVariables false
set_option linter.unusedSimpArgs false

abbrev Dl := List (Nat × Option (Bk))

section

def puts (S : Tr (Bk)) : Dl → Tr (Bk)
  | [] => S
  | (b, k) :: r => puts (S.put b k) r

def zeroA (P : Program) (ty : TypeId) : Option (List (AC)) :=
  match P.info? ty with
  | some i => match i.zero with
    | some z => (ofV1 z : Option (A1)).map A1.cells
    | none => none
  | none => none

def rowA (z : List (AC)) : Nat → List (AC)
  | 0 => []
  | k + 1 => rowA z k ++ z

def storeA (P : Program) (st : Bool) (S : Tr (Bk)) (n : Nat) (ty b off : Nat) (xs : List (AC)) : Option (AV × Dl × Nat) :=
  match S.get b, P.info? ty with
  | some k, some i =>
    bif Nat.beq i.size xs.length && Nat.ble (off + xs.length) k.cells.length && loose1 st ((k.cells.drop off).take xs.length) then
      some (.tup [], [(b, some { k with cells := spl k.cells off xs })], n)
    else none
  | _, _ => none

/-- The cells of a slice that is read. -/
def newsA (P : Program) (S : Tr (Bk)) (sz : Nat) : Option (AV) → Option (Nat × List (AC))
  | some (.v (.one (.slc b off m _))) => (rangeA S b off (m * sz)).map fun cs => (m, cs)
  | some (.v (.one (.lit (.slice none 0 0)))) => some (0, [])
  | _ => none

/-- The cells of a slice that is grown: its block, if it has one, its length, what it holds. -/
def oldsA (P : Program) (S : Tr (Bk)) (sz e : Nat) : Option (AV) → Option (Option (Nat × Cap) × Nat × List (AC))
  | some (.v (.one (.slc b 0 len c))) => match S.get b with
    | some k => bif Nat.beq k.cells.length (len * sz) && Nat.beq k.ty e then
        (match c with
        | .known m => bif Nat.beq m len && !k.grown then some (some (b, c), len, k.cells) else none
        | .blk => bif k.grown && Nat.beq k.sz sz then some (some (b, c), len, k.cells) else none
        | .any => none) else none
    | none => none
  | some (.v (.one (.lit (.slice none 0 0)))) => some (none, 0, [])
  | _ => none

def appendA (P : Program) (st : Bool) (ev : Operand → Option (AV)) (S : Tr (Bk)) (n : Nat) (t : TypeId) (s x : Operand) : Option (AV × Dl × Nat) :=
  match P.underlying t with
  | some (.slice e) => match P.info? e, (zeroA P e : Option (List (AC))) with
    | some i, some z => match oldsA P S i.size e (ev s), newsA P S i.size (ev x) with
      | _, some (0, _) => match ev s with
        | some (.v (.one (.slc b off len c))) => some (.v (.one (.slc b off len c)), [], n)
        | some (.v (.one (.lit (.slice none 0 0)))) => some (.v (.one (.lit (.slice none 0 0))), [], n)
        | _ => none
      | some (ob, len, olds), some (m, news) =>
        bif Nat.beq z.length i.size && Nat.ble 1 i.size && loose1 st z && Nat.ble 1 m && Nat.ble ((len + m) * (i.bytes + 1)) 16777216 then
          some (.v (.one (.slc n 0 (len + m) .blk)), (match ob with | some (b, _) => [(b, none)] | none => []) ++ [(n, some ⟨e, olds ++ news, i.size, true⟩)], n + 1)
        else none
      | _, _ => none
    | _, _ => none
  | _ => none

def makeA (P : Program) (ev : Operand → Option (AV)) (n : Nat) (t : TypeId) (l c : Operand) : Option (AV × Dl × Nat) :=
  match P.underlying t with
  | some (.slice e) => match P.info? e, (zeroA P e : Option (List (AC))), natOf 0 65536 (ev l), natOf 0 65536 (ev c) with
    | some i, some z, some l, some c =>
      bif Nat.beq z.length i.size && Nat.ble l c && Nat.ble (i.bytes * c) 16777216 then
        some (.v (.one (.slc n 0 l (.known c))), [(n, some ⟨e, rowA z c, 0, false⟩)], n + 1)
      else none
    | _, _, _, _ => none
  | _ => none

def litSliceA (P : Program) (ev : Operand → Option (AV)) (n : Nat) (t : TypeId) (len : Nat) (parts : List (Nat × Operand)) : Option (AV × Dl × Nat) :=
  match P.underlying t with
  | some (.slice e) => match P.info? e, (zeroA P e : Option (List (AC))), partsA ev parts with
    | some i, some z, some ps =>
      bif Nat.beq z.length i.size && Nat.ble (len * i.size) 16777216 && Nat.ble len 16777216 then
        match fillA (fun j => some (j * i.size, i.size)) (rowA z len) ps with
        | some cs => some (.v (.one (.slc n 0 len (.known len))), [(n, some ⟨e, cs, 0, false⟩)], n + 1)
        | none => none
      else none
    | _, _, _ => none
  | _ => none

/-- Cells of one slice written over those of another. -/
def copyA (P : Program) (st : Bool) (ev : Operand → Option (AV)) (S : Tr (Bk)) (n : Nat) (t : TypeId) (d s : Operand) : Option (AV × Dl × Nat) :=
  match P.underlying t with
  | some (.slice e) => match P.info? e with
    | some i => bif Nat.beq i.size 1 then
        (match ev d, ev s with
        | some (.v (.one (.slc b off dl _))), some (.v (.one (.slc b2 off2 sl _))) =>
          match S.get b, rangeA S b2 off2 (bif Nat.ble sl dl then sl else dl) with
          | some k, some cs => bif Nat.ble (off + cs.length) k.cells.length && loose1 st ((k.cells.drop off).take cs.length) then
              some (.v (.one (.lit (.int .i64 (.ofNat cs.length)))), [(b, some { k with cells := spl k.cells off cs })], n) else none
          | _, _ => none
        | some (.v (.one (.slc b off dl _))), some (.v (.one (.lit (.slice none 0 0)))) => some (.v (.one (.lit (.int .i64 (.ofNat 0)))), [], n)
        | some (.v (.one (.lit (.slice none 0 0)))), some (.v (.one (.slc b2 off2 sl _))) => some (.v (.one (.lit (.int .i64 (.ofNat 0)))), [], n)
        | some (.v (.one (.lit (.slice none 0 0)))), some (.v (.one (.lit (.slice none 0 0)))) => some (.v (.one (.lit (.int .i64 (.ofNat 0)))), [], n)
        | _, _ => none) else none
    | none => none
  | _ => none

/-- Cells of a slice made nought. -/
def clearA (P : Program) (st : Bool) (ev : Operand → Option (AV)) (S : Tr (Bk)) (n : Nat) (t : TypeId) (x : Operand) : Option (AV × Dl × Nat) :=
  match P.underlying t with
  | some (.slice e) => match P.info? e with
    | some i => match i.zero with
      | some z => bif z.oneCell' then
          (match ev x with
          | some (.v (.one (.slc b off len _))) => match S.get b with
            | some k => bif Nat.ble 1 len then
                (bif Nat.ble (off + len) k.cells.length && loose1 st ((k.cells.drop off).take len) then
                  some (.tup [], [(b, some { k with cells := spl k.cells off (List.replicate len (.lit z)) })], n) else none)
              else some (.tup [], [], n)
            | none => none
          | _ => none) else none
      | none => none
    | none => none
  | _ => none

def writeOp (P : Program) (st : Bool) (ev : Operand → Option (AV)) (S : Tr (Bk)) (n : Nat) (o : Oper) : Option (AV × Dl × Nat) :=
  match o.op with
  | .alloc ty => (zeroA P ty).map fun cs => (.v (.one (.ptr n 0)), [(n, some ⟨ty, cs, 0, false⟩)], n + 1)
  | .box ty x => match ev x with
    | some (.v x) => some (.v (.one (.ptr n 0)), [(n, some ⟨ty, x.cells, 0, false⟩)], n + 1)
    | _ => none
  | .buildSlice t len parts => litSliceA P ev n t len parts.toList
  | .makeSlice t l c => makeA P ev n t l c
  | .store ty x y => match ev x, ev y with
    | some (.v (.one (.ptr b off))), some (.v y) => storeA P st S n ty b off y.cells
    | _, _ => none
  | .call c => match c.callee, c.args.toList, c.argTypes.toList with
    | .builtin .append, [s, x], [t, t'] => bif Nat.beq t t' then appendA P st ev S n t s x else none
    | .builtin .copy, [d, s], [t, _] => copyA P st ev S n t d s
    | .builtin .clear, [x], [t] => clearA P st ev S n t x
    | _, _, _ => none
  | _ => none
end

section
variable {M : Dom} {ρ : Env} {w : World} {P : Program} {B : Nat} {S : Tr (Bk)} {n : Nat}

theorem zeroA_ok {ty : TypeId} {cs : List (AC)} (h : zeroA P ty = some cs) : ∃ i z, P.info? ty = some i ∧ i.zero = some z ∧ ∀ (M : Dom) ρ w, rels M ρ w cs z.cells.toList := by
  unfold zeroA at h
  split at h
  · rename_i i hi
    split at h
    · rename_i z hz
      simp only [Option.map_eq_some_iff] at h
      obtain ⟨x, hx, rfl⟩ := h
      exact ⟨i, z, hi, hz, fun M ρ w => (ofV1_rel hx).cells⟩
    · cases h
  · cases h

theorem range_mul (s k : Nat) : List.range ((k + 1) * s) = List.range (k * s) ++ (List.range s).map (k * s + ·) := by
  rw [Nat.add_mul, Nat.one_mul, List.range_add]

theorem made_rel {z : List (AC)} {zv : Array Value} (hz : rels M ρ w z zv.toList) : ∀ k : Nat, rels M ρ w (rowA z k) (madeCells zv (k * zv.size)).toList
  | 0 => by simp [rowA, madeCells, rels]
  | k + 1 => by
    have ih := made_rel hz k
    have e : (madeCells zv ((k + 1) * zv.size)).toList = (madeCells zv (k * zv.size)).toList ++ zv.toList := by
      simp only [madeCells, Array.toList_map, Array.toList_range, range_mul, List.map_append, List.map_map]
      congr 1
      apply List.ext_getElem
      · simp
      · intro j h1 h2
        simp only [List.length_map, List.length_range] at h1
        simp only [List.getElem_map, List.getElem_range, Function.comp]
        rw [Nat.mul_comm, Nat.mul_add_mod, Nat.mod_eq_of_lt h1]
        simp [h1]
    rw [e]
    exact ih.append hz

/-- What comes next. -/
def NextIs (x : Next) (v : Value) : Prop := x = .value v ∨ (x = .skip ∧ v = undef)

theorem storeVar_run {w : World} {p off : Nat} {ty : TypeId} {i : TypeInfo} {arr : Array Value} {t : TypeId} {v : Value} (hi : P.info? ty = some i) (hs : i.size = v.cells.size) (ha : w.heap[p]? = some (.cells arr t (0, 0))) (hfit : off + v.cells.size ≤ arr.size)
    (h1 : ∀ u ∈ v.cells.toList, u.oneCell' = true) : (storeVar ty ⟨p, off, none⟩ v).run P w = .ok () (w.setRow p (spl arr.toList off v.cells.toList).toArray) := by
  have hst := run_storeCells_at P p off t v.cells.toList 0 arr w ha (by simpa using hfit) h1
  simp only [Nat.add_zero, Array.length_toList] at hst
  have e1 : ¬ (v.cells.size ≠ i.size) := by omega
  simp only [storeVar, Sem.run_bind, sizeOf_run hi, Result.andThen_ok, if_neg e1, Sem.run_pure]
  rw [hst]
  simp [spl]

theorem storeA_ok (hS : SRel M B ρ w S) (hk : ∀ {b k}, S.get b = some k → b < n) {ty b off : Nat} {y : A1} {u : Value} {av : AV} {dl : Dl} {n' : Nat} (hy : y.rel M ρ w u) (h : storeA P M.strict S n ty b off y.cells = some (av, dl, n')) :
    ∃ p, ρ.loc b = some p ∧ ∃ w', (storeVar ty ⟨p, off, none⟩ u).run P w = .ok () w' ∧ av = .tup [] ∧ Tn M B ρ w S n ρ w' (puts S dl) n' := by
  unfold storeA at h
  split at h
  · rename_i k i hb hi
    cases hc : (Nat.beq i.size y.cells.length && Nat.ble (off + y.cells.length) k.cells.length && loose1 M.strict ((k.cells.drop off).take y.cells.length)) with
    | false => rw [hc] at h; simp at h
    | true =>
      rw [hc] at h
      simp only [cond_true, Option.some.injEq, Prod.mk.injEq] at h
      obtain ⟨rfl, rfl, rfl⟩ := h
      simp only [Bool.and_eq_true, Nat.ble_eq, beq_nat, decide_eq_true_eq] at hc
      obtain ⟨⟨h1, h2⟩, h3⟩ := hc
      obtain ⟨p, arr, hp, hB, ha, hr, hle⟩ := hS.read hb
      have hyc := hy.cells
      have hyl := hyc.length
      simp only [Array.length_toList] at hyl
      refine ⟨p, hp, _, storeVar_run hi (by omega) ha (by omega) hyc.oneCell, rfl, ?_⟩
      exact Tn.set hS hk hb hp ha hyc h2 h3
  · cases h

theorem loose_zero {cs : List (AC)} {us : List Value} (h : rels M ρ w cs us) (hl : loose1 M.strict cs = true) (hst : M.strict = true) : ∀ u ∈ us, ∀ x, u ≠ .int .u32 x := by
  intro u hu x
  obtain ⟨j, hj⟩ := List.mem_iff_getElem?.1 hu
  have hlen := h.length
  have hjl : j < us.length := (List.getElem?_eq_some_iff.1 hj).1
  have hc : (cs[j]?).isSome = true := by simp; omega
  obtain ⟨c, hc⟩ := Option.isSome_iff_exists.1 hc
  obtain ⟨u', hu', hr⟩ := h.get hc
  obtain rfl : u = u' := Option.some.inj (hj.symm.trans hu')
  refine hr.loose ?_ x
  unfold loose1 at hl
  rw [hst, Bool.not_true, Bool.false_or, List.all_eq_true] at hl
  exact hl c (List.mem_of_getElem? hc)

/-- What append does, with all that it leaves. -/
theorem append_full {t e : TypeId} {i : TypeInfo} {z : Value} (ty : TypeId) (w : World) (ht : P.underlying t = some (.slice e)) (hi : P.info? e = some i) (hz : i.zero = some z) (hzs : z.cells.size = i.size) (hsz : 0 < i.size)
    {old : Option (Nat × Nat × Array Value)} {len : Nat} {xs : List Value} (hx : xs.length = len * i.size)
    (ho : match old with | none => len = 0 | some (p, cap, arr) => w.heap[p]? = some (.cells arr e (0, 0)) ∧ arr.size = cap * i.size ∧ len ≤ cap ∧ cap ≤ maxLen ∧ arr.toList.take (len * i.size) = xs)
    {a : Addr} {m c : Nat} {news : List Value} (hl : news.length = m * i.size) (hnews : ∀ j u, news[j]? = some u → w.cell? (a.add j) = some u) (h1 : ∀ u ∈ news, u.oneCell' = true) (hm : 0 < m)
    (hbytes : (len + m) * (i.bytes + 1) ≤ 16777216) :
    ∃ g cap cur w', (Builtin.append_ #[t, t] ty #[(match old with | none => .slice none 0 0 | some (p, cap, _) => .slice (some ⟨p, 0, none⟩) len cap), .slice (some a) m c]).run P w = .ok (.slice (some ⟨g, 0, none⟩) (len + m) cap) w' ∧
      len + m ≤ cap ∧ cap ≤ maxLen ∧ w'.heap[g]? = some (.cells cur e (0, 0)) ∧ cur.size = cap * i.size ∧ cur.toList.take ((len + m) * i.size) = xs ++ news ∧
      ((∃ arr, old = some (g, cap, arr) ∧ cur.toList = spl arr.toList (len * i.size) news ∧ w' = w.setRow g cur) ∨
       (g = w.heap.size ∧ w' = w.drew.alloc (.cells cur e) ∧ ∀ j u, (len + m) * i.size ≤ j → cur[j]? = some u → u ∈ z.cells.toList)) := by
  have hb1 : (len + m) * i.bytes ≤ 16777216 := Nat.le_trans (Nat.mul_le_mul_left _ (by omega)) hbytes
  have hb2 : len + m ≤ 16777216 := Nat.le_trans (Nat.le_mul_of_pos_right _ (by omega)) hbytes
  have h63 : len + m ≤ maxLen := by unfold maxLen; omega
  have fresh : ∀ (old' : Nat) (zs : Array Value), zs.size = (grownCap w (len + m) old' e - (len + m)) * i.size → (∀ u ∈ zs.toList, u ∈ z.cells.toList) →
      len + m ≤ grownCap w (len + m) old' e ∧ grownCap w (len + m) old' e ≤ maxLen ∧ (w.drew.alloc (.cells (xs.toArray ++ news.toArray ++ zs) e)).heap[w.heap.size]? = some (.cells (xs.toArray ++ news.toArray ++ zs) e (0, 0)) ∧
      (xs.toArray ++ news.toArray ++ zs).size = grownCap w (len + m) old' e * i.size ∧ (xs.toArray ++ news.toArray ++ zs).toList.take ((len + m) * i.size) = xs ++ news ∧
      ∀ j u, (len + m) * i.size ≤ j → (xs.toArray ++ news.toArray ++ zs)[j]? = some u → u ∈ z.cells.toList := by
    intro old' zs hzz hin
    have hge := grownCap_ge w (len + m) old' e
    have hcm := grownCap_le_maxLen w (len + m) old' e h63
    have hlen : (xs ++ news).length = (len + m) * i.size := by rw [List.length_append, hx, hl, Nat.add_mul]
    refine ⟨hge, hcm, heap_alloc_new w.drew _, ?_, ?_, ?_⟩
    · simp only [Array.size_append, List.size_toArray, hzz, hx, hl, ← Nat.add_mul]
      congr 1
      omega
    · simp only [Array.toList_append, ← hlen]
      exact List.take_left
    · intro j u hj hu
      refine hin u ?_
      have e : xs.toArray ++ news.toArray ++ zs = (xs ++ news ++ zs.toList).toArray := by apply Array.ext'; simp
      have hu' : (xs ++ news ++ zs.toList)[j]? = some u := by rw [e, List.getElem?_toArray] at hu; exact hu
      rw [List.getElem?_append_right (by omega)] at hu'
      exact List.mem_of_getElem? hu'
  have hzin : ∀ k, ∀ u ∈ (Builtin.zeroCells z.cells k).toList, u ∈ z.cells.toList := by
    intro k u hu
    simp only [Builtin.zeroCells, Array.toList_map, List.mem_map] at hu
    obtain ⟨j, _, rfl⟩ := hu
    have hlt : j % z.cells.size < z.cells.size := Nat.mod_lt _ (by omega)
    simp [hlt]
  cases old with
  | none =>
    simp only at ho
    subst ho
    obtain rfl : xs = [] := List.eq_nil_of_length_eq_zero (by simpa using hx)
    have hr := run_append_nil (P := P) w t ty e i z ht hi hz a m c news hl hnews hm (by omega) (by simp at hb1; omega)
    obtain ⟨f1, f2, f3, f4, f5, f6⟩ := fresh 0 (Builtin.zeroCells z.cells (grownCap w (0 + m) 0 e - (0 + m))) (by rw [size_zeroCells, hzs]) (hzin _)
    simp only [Nat.zero_add, List.nil_append, Array.empty_append] at *
    exact ⟨_, _, _, _, hr, f1, f2, f3, f4, f5, .inr ⟨rfl, rfl, f6⟩⟩
  | some o =>
    obtain ⟨p, cap, arr⟩ := o
    simp only at ho ⊢
    obtain ⟨hp, has, hlc, hcm, htk⟩ := ho
    by_cases hroom : len + m ≤ cap
    · have hmul : (len + m) * i.size ≤ cap * i.size := Nat.mul_le_mul_right _ hroom
      have hfit : len * i.size + news.length ≤ arr.size := by rw [hl, has, ← Nat.add_mul]; exact hmul
      have hr := run_append_room (P := P) w t ty e i ht hi p len cap arr hp a m c news hl hnews h1 hroom hfit
      refine ⟨p, cap, _, _, hr, hroom, hcm, setRow_heap w p arr _ e _ hp, ?_, ?_, .inl ⟨arr, rfl, rfl, rfl⟩⟩
      · have := spl_length (l := arr.toList) (xs := news) (off := len * i.size) (by simpa using hfit)
        simp only [List.size_toArray]
        rw [← has, ← Array.length_toList]
        exact this
      · have hlen : (xs ++ news).length = (len + m) * i.size := by rw [List.length_append, hx, hl, Nat.add_mul]
        rw [htk, ← hlen]
        exact List.take_left
    · have holds : ∀ j u, xs[j]? = some u → w.cell? ((⟨p, 0, none⟩ : Addr).add j) = some u := by
        intro j u hu
        rw [Addr.add_mid, Nat.zero_add, cell_of_row' hp]
        rw [← htk, List.getElem?_take] at hu
        split at hu
        · simpa using hu
        · cases hu
      have hr := run_append_grow (P := P) w t ty e i z ht hi hz ⟨p, 0, none⟩ len cap xs hx holds a m c news hl hnews (by omega) (by omega) (growslice_fits (by omega) (by omega))
      obtain ⟨f1, f2, f3, f4, f5, f6⟩ := fresh cap (Builtin.zeroCells z.cells (grownCap w (len + m) cap e - (len + m))) (by rw [size_zeroCells, hzs]) (hzin _)
      exact ⟨_, _, _, _, hr, f1, f2, f3, f4, f5, .inr ⟨rfl, rfl, f6⟩⟩
end
end Go.Ev
