/- Rows of numbers that a call itself builds, number by number (append). -/
/- Rows of small numbers (the laws' Row). -/
import Derived.Test.YtcccejhkblnonaaGreatYXEVE
namespace Go.Proofs.YtcccejhkblnonaaGreat
open Go.RowKit
set_option linter.unusedVariables false
set_option linter.unusedSimpArgs false

/-- Cells, three by three, are numbers. -/
def TriV (w : World) : List Value → List Rat → Prop
  | [], [] => True
  | b :: x :: y :: L, q :: qs => RV w (.agg #[b, x, y]) q ∧ TriV w L qs
  | _, _ => False
theorem TriV.mono {w w' : World} (h : ∀ {v q}, RV w v q → RV w' v q) : ∀ {L : List Value} {qs : List Rat}, TriV w L qs → TriV w' L qs
  | [], [], _ => trivial
  | b :: x :: y :: L, q :: qs, hh => ⟨h hh.1, TriV.mono h hh.2⟩
  | [], _ :: _, hh => hh.elim
  | [_], _, hh => by cases hh
  | [_, _], _, hh => by cases hh
  | _ :: _ :: _ :: _, [], hh => hh.elim
theorem TriV.snoc {w : World} {b x y : Value} {q : Rat} (hq : RV w (.agg #[b, x, y]) q) : ∀ {L : List Value} {qs : List Rat}, TriV w L qs → TriV w (L ++ [b, x, y]) (qs ++ [q])
  | [], [], _ => ⟨hq, trivial⟩
  | _ :: _ :: _ :: L, _ :: qs, hh => ⟨hh.1, TriV.snoc hq hh.2⟩
  | [], _ :: _, hh => hh.elim
  | [_], _, hh => by cases hh
  | [_, _], _, hh => by cases hh
  | _ :: _ :: _ :: _, [], hh => hh.elim
theorem TriV.length {w : World} : ∀ {L : List Value} {qs : List Rat}, TriV w L qs → L.length = qs.length * 3
  | [], [], _ => rfl
  | _ :: _ :: _ :: L, _ :: qs, hh => by have := TriV.length hh.2; simp [this]; omega
  | [], _ :: _, hh => hh.elim
  | [_], _, hh => by cases hh
  | [_, _], _, hh => by cases hh
  | _ :: _ :: _ :: _, [], hh => hh.elim

/-- No limbs among the cells. -/
def NoLimb (L : List Value) : Prop := ∀ u ∈ L, u.oneCell' = true ∧ ∀ x, u ≠ .int .u32 x

/-- A row of structs of three cells that the call itself has made: its cells so far are L. -/
def OwnL (w : World) (base : Nat) (v : Value) (L : List Value) (len : Nat) : Prop :=
  (v = .slice none 0 0 ∧ len = 0 ∧ L = []) ∨ ∃ g cap arr, v = .slice (some ⟨g, 0, none⟩) len cap ∧ base ≤ g ∧ w.heap[g]? = some (.cells arr 34 (0, 0)) ∧ arr.size = cap * 3 ∧ len ≤ cap ∧ cap ≤ maxLen ∧
    arr.toList.take (len * 3) = L ∧ NoLimb arr.toList

theorem OwnL.fwd {w w' : World} {base : Nat} {v : Value} {L : List Value} {len : Nat} (h : OwnL w base v L len) (k : Fwd w w') : OwnL w' base v L len := by
  rcases h with h | ⟨g, cap, arr, h1, h2, h3, h4⟩
  · exact .inl h
  · exact .inr ⟨g, cap, arr, h1, h2, k.blockAt h3, h4⟩
theorem OwnL.length {w : World} {base : Nat} {v : Value} {L : List Value} {len : Nat} (h : OwnL w base v L len) : L.length = len * 3 := by
  rcases h with ⟨_, rfl, rfl⟩ | ⟨g, cap, arr, _, _, _, h4, h5, _, h6, _⟩
  · rfl
  · rw [← h6, List.length_take, Array.length_toList, h4]
    exact Nat.min_eq_left (Nat.mul_le_mul_right _ h5)

/-- Numbers stay, where cells that are no limbs are written. -/
def Kp (w w' : World) : Prop := ∀ {v q}, RV w v q → RV w' v q

theorem rv_setRow {w : World} {g : Nat} {arr arr' : Array Value} {T : TypeId} (hg : w.heap[g]? = some (.cells arr T (0, 0))) (hn : NoLimb arr.toList) {v : Value} {q : Rat} (h : RV w v q) : RV (w.setRow g arr') v q :=
  RV.keepV h (T := T) (cs := arr.toList) (by unfold BlkV; simpa using hg) (fun c hc x => (hn c hc).2 x) ⟨rfl, rfl, rfl, by simp [World.setRow], fun k _ he => setRow_other w g k _ (by simp at he; omega)⟩

theorem info_rat : (Tryz.prog.info? 34).map (fun i => (i.zero, i.size, i.bytes)) = some (some (.agg #[.bool false, .slice none 0 0, .slice none 0 0]), 3, 56) := by kernel_rfl

/-- append(v, one struct). -/
theorem appendQ_run {w : World} {base : Nat} {v : Value} {L : List Value} {len g2 c : Nat} {b0 b1 b2 : Value} (ty : TypeId) (h : OwnL w base v L len) (hb : BlkV w g2 34 [b0, b1, b2]) (hn : NoLimb [b0, b1, b2]) (hl : len ≤ 100000) (hbase : base ≤ w.heap.size) :
    ∃ v' w', (Builtin.append_ #[24, 24] ty #[v, .slice (some ⟨g2, 0, none⟩) 1 c]).run Tryz.prog w = .ok v' w' ∧ OwnL w' base v' (L ++ [b0, b1, b2]) (len + 1) ∧ Below base w w' ∧ (∀ {u q}, RV w u q → RV w' u q) ∧ (∃ a c', v' = .slice (some a) (len + 1) c') ∧ w.heap.size ≤ w'.heap.size := by
  obtain ⟨i, hi, hz0, hz1, hz2⟩ := info_parts info_rat
  have hL := h.length
  have hnews : ∀ (j : Nat) (u : Value), [b0, b1, b2][j]? = some u → w.cell? ((⟨g2, 0, none⟩ : Addr).add j) = some u := by
    intro j u hj
    have : (⟨g2, 0, none⟩ : Addr).add j = ⟨g2, j, none⟩ := by unfold Addr.add; split <;> simp_all
    rw [this]
    exact BlkV.cell hb j hj
  have key : ∀ old : Option (Nat × Nat × Array Value), (match old with | none => len = 0 ∧ L = [] | some (p, cap, arr) => w.heap[p]? = some (.cells arr 34 (0, 0)) ∧ arr.size = cap * 3 ∧ len ≤ cap ∧ cap ≤ maxLen ∧ arr.toList.take (len * 3) = L) →
      ∃ g cap cur w', (Builtin.append_ #[24, 24] ty #[(match old with | none => .slice none 0 0 | some (p, cap, _) => .slice (some ⟨p, 0, none⟩) len cap), .slice (some ⟨g2, 0, none⟩) 1 c]).run Tryz.prog w = .ok (.slice (some ⟨g, 0, none⟩) (len + 1) cap) w' ∧
        len + 1 ≤ cap ∧ cap ≤ maxLen ∧ w'.heap[g]? = some (.cells cur 34 (0, 0)) ∧ cur.size = cap * 3 ∧ cur.toList.take ((len + 1) * 3) = L ++ [b0, b1, b2] ∧
        ((∃ arr, old = some (g, cap, arr) ∧ cur.toList = Go.Ev.spl arr.toList (len * 3) [b0, b1, b2] ∧ w' = w.setRow g cur) ∨
         (g = w.heap.size ∧ w' = w.drew.alloc (.cells cur 34) ∧ ∀ j u, (len + 1) * 3 ≤ j → cur[j]? = some u → u ∈ [Value.bool false, .slice none 0 0, .slice none 0 0])) := by
    intro old ho
    obtain ⟨g, cap, cur, w', e1, e2, e3, e4, e5, e6, e7⟩ := Go.Ev.append_full (P := Tryz.prog) (t := 24) (i := i) ty w Tryz.underlying24 hi hz0 (by rw [hz1]; rfl) (by rw [hz1]; omega) (old := old) (len := len) (xs := L) (by rw [hz1]; exact hL)
      (by
        cases old with
        | none => exact ho.1
        | some o => obtain ⟨p, cp, ar⟩ := o; rw [hz1]; exact ho)
      (a := ⟨g2, 0, none⟩) (m := 1) (c := c) (news := [b0, b1, b2]) (by rw [hz1]; rfl) hnews (fun u hu => (hn u hu).1) (by omega) (by rw [hz2]; omega)
    rw [hz1] at e5 e6 e7
    exact ⟨g, cap, cur, w', e1, e2, e3, e4, e5, e6, e7⟩
  -- a new row
  have fresh : ∀ {g cap : Nat} {cur : Array Value} {w' : World}, len + 1 ≤ cap → cap ≤ maxLen → w'.heap[g]? = some (.cells cur 34 (0, 0)) → cur.size = cap * 3 → cur.toList.take ((len + 1) * 3) = L ++ [b0, b1, b2] → NoLimb L →
      (g = w.heap.size ∧ w' = w.drew.alloc (.cells cur 34) ∧ ∀ j u, (len + 1) * 3 ≤ j → cur[j]? = some u → u ∈ [Value.bool false, .slice none 0 0, .slice none 0 0]) →
      OwnL w' base (.slice (some ⟨g, 0, none⟩) (len + 1) cap) (L ++ [b0, b1, b2]) (len + 1) ∧ Below base w w' ∧ (∀ {u q}, RV w u q → RV w' u q) ∧ w.heap.size ≤ w'.heap.size := by
    intro g cap cur w' e2 e3 e4 e5 e6 hnl ⟨h1, h2, h3⟩
    have hf : Fwd w w' := by subst h2; exact (Fwd.refl w).drew.alloc _
    refine ⟨.inr ⟨g, cap, cur, rfl, by omega, e4, e5, e2, e3, e6, ?_⟩, Below.mono hf hbase, fun hq => hq.fwd hf, hf.size⟩
    intro u hu
    obtain ⟨j, hj⟩ := List.getElem?_of_mem hu
    by_cases hlt : j < (len + 1) * 3
    · have hm : u ∈ L ++ [b0, b1, b2] := by
        rw [← e6]
        exact List.mem_of_getElem? (by rw [List.getElem?_take, if_pos hlt]; exact hj)
      rcases List.mem_append.1 hm with hm | hm
      · exact hnl u hm
      · exact hn u hm
    · have := h3 j u (by omega) (by simpa using hj)
      simp at this
      rcases this with rfl | rfl
      · exact ⟨rfl, by simp⟩
      · exact ⟨rfl, by simp⟩
  rcases h with ⟨rfl, rfl, rfl⟩ | ⟨g0, cap0, arr0, rfl, hg1, hg2, hg3, hg4, hg5, hg6, hg7⟩
  · obtain ⟨g, cap, cur, w', e1, e2, e3, e4, e5, e6, e7⟩ := key none ⟨rfl, rfl⟩
    rcases e7 with ⟨arr, he, _⟩ | e7
    · cases he
    · obtain ⟨f1, f2, f3, f4⟩ := fresh e2 e3 e4 e5 e6 (fun u hu => by cases hu) e7
      exact ⟨_, w', e1, f1, f2, f3, ⟨_, _, rfl⟩, f4⟩
  · obtain ⟨g, cap, cur, w', e1, e2, e3, e4, e5, e6, e7⟩ := key (some (g0, cap0, arr0)) ⟨hg2, hg3, hg4, hg5, hg6⟩
    rcases e7 with ⟨arr, he, h5, rfl⟩ | e7
    · simp only [Option.some.injEq, Prod.mk.injEq] at he
      obtain ⟨rfl, rfl, rfl⟩ := he
      have hnc : NoLimb cur.toList := by
        intro u hu
        rw [h5] at hu
        unfold Go.Ev.spl at hu
        rcases List.mem_append.1 hu with hu | hu
        · rcases List.mem_append.1 hu with hu | hu
          · exact hg7 u (List.mem_of_mem_take hu)
          · exact hn u hu
        · exact hg7 u (List.mem_of_mem_drop hu)
      refine ⟨_, _, e1, .inr ⟨g0, cap0, cur, rfl, hg1, e4, e5, e2, e3, e6, hnc⟩, ?_, fun hq => rv_setRow hg2 hg7 hq, ⟨_, _, rfl⟩, by simp [World.setRow]⟩
      exact ⟨rfl, rfl, rfl, by simp [World.setRow], fun k hk => setRow_other w g0 k _ (by omega)⟩
    · obtain ⟨f1, f2, f3, f4⟩ := fresh e2 e3 e4 e5 e6 (fun u hu => hg7 u (by rw [← hg6] at hu; exact List.mem_of_mem_take hu)) e7
      exact ⟨_, w', e1, f1, f2, f3, ⟨_, _, rfl⟩, f4⟩

/-- append(v, one struct), for the walk. -/
theorem law_appendQ {w : World} {ops : Array Oper} {rest : List Oper} {o : Oper} {a : Act} {Q : Exit → Act → World → Prop} (hgd : o.guard = none) (s x : Operand)
    (ho : o.op = .call { callee := .builtin .append, args := #[s, x], argTypes := #[24, 24] }) {base : Nat} {v : Value} {L : List Value} {len g2 c : Nat} {b0 b1 b2 : Value} (hs : a.eval s = v) (hx : a.eval x = .slice (some ⟨g2, 0, none⟩) 1 c)
    (h : OwnL w base v L len) (hb : BlkV w g2 34 [b0, b1, b2]) (hn : NoLimb [b0, b1, b2]) (hl : len ≤ 100000) (hbase : base ≤ w.heap.size)
    (hK : ∀ v' w', OwnL w' base v' (L ++ [b0, b1, b2]) (len + 1) → Below base w w' → (∀ {u q}, RV w u q → RV w' u q) → (∃ a c', v' = .slice (some a) (len + 1) c') → w.heap.size ≤ w'.heap.size → wpList Tryz.prog ops Q rest (a.put o.dst v') w') :
    wpList Tryz.prog ops Q (o :: rest) a w := by
  refine wpList_plain hgd fun K hK' => ?_
  obtain ⟨v', w', hrun, h1, h2, h3, h4, h5⟩ := appendQ_run o.type h hb hn hl hbase (c := c)
  unfold Oper.wp
  simp [execOp, ho, resolve, invoke, builtin, hs, hx, hrun, Result.andThen]
  exact hK' _ _ (hK v' w' h1 h2 h3 h4 h5)
end Go.Proofs.YtcccejhkblnonaaGreat

namespace Go.Proofs.YtcccejhkblnonaaGreat
open Go.RowKit
set_option linter.unusedVariables false
set_option linter.unusedSimpArgs false

/-- A slice of whole numbers that came in. -/
def NsV (w : World) (v : Value) (zs : List Int) : Prop := (∀ i, i < zs.length → -9223372036854775808 ≤ zs.getD i 0 ∧ zs.getD i 0 ≤ 9223372036854775807) ∧ ∃ base cap, v = .slice base zs.length cap ∧ zs.length ≤ cap ∧ cap ≤ maxLen ∧
  ∀ i, i < zs.length → ∃ b off, base = some ⟨b, off, none⟩ ∧ w.cell? ⟨b, off + i, none⟩ = some (.int .i64 (zs.getD i 0))
theorem NsV.fwd {w w' : World} {v : Value} {zs : List Int} (h : NsV w v zs) (k : Fwd w w') : NsV w' v zs := by
  obtain ⟨h0, base, cap, h1, h2, h3, h4⟩ := h
  refine ⟨h0, base, cap, h1, h2, h3, fun i hi => ?_⟩
  obtain ⟨b, off, h5, h6⟩ := h4 i hi
  exact ⟨b, off, h5, k.cell h6⟩

/-- The raw number at a place; the numbers of a row. -/
def rawK (zs : List Int) (i : Nat) : Int := if i < zs.length then zs.getD i 0 else 3 * (i : Int) + 1
def rowZ (zs : List Int) (n : Nat) : List Rat := (List.range n).map fun i => smallQ (rawK zs i)
theorem rowZ_succ (zs : List Int) (n : Nat) : rowZ zs (n + 1) = rowZ zs n ++ [smallQ (rawK zs n)] := by
  unfold rowZ; rw [List.range_succ, List.map_append]; rfl
theorem rowZ_len (zs : List Int) (n : Nat) : (rowZ zs n).length = n := by simp [rowZ]
theorem rowZ_get (zs : List Int) (n i : Nat) (h : i < n) : (rowZ zs n).getD i 0 = smallQ (rawK zs i) := by simp [rowZ, h]

set_option maxHeartbeats 4000000 in
set_option maxRecDepth 20000 in
theorem rowLaw_any {w : World} {a : Value} {zs : List Int} (ha : NsV w a zs) (n : Nat) (hn : n ≤ 1000) :
    Calls Tryz.prog 27 #[a, .int .i64 n] w fun e w' => ∃ v L, e = .returned v ∧ OwnL w' w.heap.size v L n ∧ TriV w' L (rowZ zs n) ∧ Fwd w w' := by
  have HA := hid ha
  obtain ⟨z0, base, cap, rfl, z1, z2, z3⟩ := ha
  unfold maxLen at z2
  have Z0 := hid z0
  have Z3 := hid z3
  clear z0 z3
  go_enter Tryz.func27, Tryz.ntmps27
  go_wp2_with fail
  go_loopw [5, 6] (fun v i wr => ∃ (k : Nat) (L : List Value), k ≤ n ∧ i = .int .i64 k ∧ OwnL wr w.heap.size v L k ∧ TriV wr L (rowZ zs k) ∧ Fwd w wr)
    (fun _ i _ => n - (intOf i).toNat)
  case atStart => exact ⟨0, [], Nat.zero_le _, rfl, .inl ⟨rfl, rfl, rfl⟩, trivial, Fwd.refl w⟩
  case round =>
    obtain ⟨k, L, hk, rfl, hown, htri, hf⟩ := hrel
    have HO := hid hown
    have HT := hid htri
    have HF := hid hf
    clear hown htri hf
    have hfs := HF.out.size
    by_cases hlt : k < n
    · have hrow := hid (rowZ_succ zs k)
      by_cases hz : k < zs.length
      · obtain ⟨b, off, rfl, c0⟩ := Z3.out k hz
        have c1 := HF.out.cell c0
        have hb := Z0.out k hz
        have hraw := hid (show rawK zs k = zs.getD k 0 by unfold rawK; rw [if_pos hz])
        generalize zs.getD k 0 = z at *
        clear c0
        go_wp2_with fail
        refine (smallR_any _ z hb.1 hb.2).mono ?_
        rintro e w1 ⟨v, rfl, hv, hf1⟩
        rw [← hraw.out] at hv
        have HV := hid hv
        obtain ⟨vN, vD, rfl, h1, h2⟩ := hv
        obtain ⟨xo, xc, rfl, _, _, _⟩ := h1.parts
        obtain ⟨yo, yc, rfl, _, _, _⟩ := h2.parts
        clear h1 h2
        have hs1 := hf1.size
        have HO1 := hid (HO.out.fwd hf1)
        have HT1 := hid (HT.out.mono fun h => h.fwd hf1)
        have HF1 := hid (HF.out.trans hf1)
        clear hf1
        generalize smallQ (rawK zs k) = q at *
        generalize hsg : negQ q = sg at *
        generalize nl q.num.natAbs = ln at *
        generalize nl q.den = ld at *
        have hal : Fwd w1 (w1.alloc (.cells #[.bool sg, .slice xo ln xc, .slice yo ld yc] 34)) := (Fwd.refl w1).alloc _
        have hblk : BlkV (w1.alloc (.cells #[.bool sg, .slice xo ln xc, .slice yo ld yc] 34)) w1.heap.size 34 [.bool sg, .slice xo ln xc, .slice yo ld yc] := BlkV.made w1 _ [.bool sg, .slice xo ln xc, .slice yo ld yc]
        have hnl : NoLimb [.bool sg, .slice xo ln xc, .slice yo ld yc] := by
          intro u hu
          simp at hu
          rcases hu with rfl | rfl | rfl <;> exact ⟨rfl, by simp⟩
        have HB := hid hblk
        have HO2 := hid (HO1.out.fwd hal)
        have HT2 := hid (HT1.out.mono fun h => h.fwd hal)
        have HV2 := hid (HV.out.fwd hal)
        have HF2 := hid (HF1.out.trans hal)
        have hsz : w.heap.size ≤ (w1.alloc (.cells #[.bool sg, .slice xo ln xc, .slice yo ld yc] 34)).heap.size := by simp; omega
        clear hal hblk
        go_wp2_with (at_builtin; refine law_appendQ rfl _ _ rfl rfl rfl HO2.out HB.out hnl (by omega) hsz ?_; intro v' w3 hown3 hbel3 hkeep3 hsl3 hsz3)
        go_roundw
        case rel =>
          exact ⟨k + 1, L ++ [.bool sg, .slice xo ln xc, .slice yo ld yc], by omega, by go_num, hown3, by rw [hrow.out]; exact TriV.snoc (hkeep3 HV2.out) (HT2.out.mono hkeep3), Below.trans HF2.out hbel3⟩
        case measure => simp [intOf]; omega
      · have hraw := hid (show rawK zs k = 3 * (k : Int) + 1 by unfold rawK; rw [if_neg hz])
        go_wp2_with fail
        refine (smallR_any _ (3 * (k : Int) + 1) (by omega) (by omega)).mono ?_
        rintro e w1 ⟨v, rfl, hv, hf1⟩
        rw [← hraw.out] at hv
        have HV := hid hv
        obtain ⟨vN, vD, rfl, h1, h2⟩ := hv
        obtain ⟨xo, xc, rfl, _, _, _⟩ := h1.parts
        obtain ⟨yo, yc, rfl, _, _, _⟩ := h2.parts
        clear h1 h2
        have hs1 := hf1.size
        have HO1 := hid (HO.out.fwd hf1)
        have HT1 := hid (HT.out.mono fun h => h.fwd hf1)
        have HF1 := hid (HF.out.trans hf1)
        clear hf1
        generalize smallQ (rawK zs k) = q at *
        generalize hsg : negQ q = sg at *
        generalize nl q.num.natAbs = ln at *
        generalize nl q.den = ld at *
        have hal : Fwd w1 (w1.alloc (.cells #[.bool sg, .slice xo ln xc, .slice yo ld yc] 34)) := (Fwd.refl w1).alloc _
        have hblk : BlkV (w1.alloc (.cells #[.bool sg, .slice xo ln xc, .slice yo ld yc] 34)) w1.heap.size 34 [.bool sg, .slice xo ln xc, .slice yo ld yc] := BlkV.made w1 _ [.bool sg, .slice xo ln xc, .slice yo ld yc]
        have hnl : NoLimb [.bool sg, .slice xo ln xc, .slice yo ld yc] := by
          intro u hu
          simp at hu
          rcases hu with rfl | rfl | rfl <;> exact ⟨rfl, by simp⟩
        have HB := hid hblk
        have HO2 := hid (HO1.out.fwd hal)
        have HT2 := hid (HT1.out.mono fun h => h.fwd hal)
        have HV2 := hid (HV.out.fwd hal)
        have HF2 := hid (HF1.out.trans hal)
        have hsz : w.heap.size ≤ (w1.alloc (.cells #[.bool sg, .slice xo ln xc, .slice yo ld yc] 34)).heap.size := by simp; omega
        clear hal hblk
        go_wp2_with (at_builtin; refine law_appendQ rfl _ _ rfl rfl rfl HO2.out HB.out hnl (by omega) hsz ?_; intro v' w3 hown3 hbel3 hkeep3 hsl3 hsz3)
        go_roundw
        case rel =>
          exact ⟨k + 1, L ++ [.bool sg, .slice xo ln xc, .slice yo ld yc], by omega, by go_num, hown3, by rw [hrow.out]; exact TriV.snoc (hkeep3 HV2.out) (HT2.out.mono hkeep3), Below.trans HF2.out hbel3⟩
        case measure => simp [intOf]; omega
    · go_wp2_with fail
      obtain rfl : k = n := by omega
      go_ret
      exact ⟨_, L, rfl, HO.out, HT.out, HF.out⟩
end Go.Proofs.YtcccejhkblnonaaGreat
