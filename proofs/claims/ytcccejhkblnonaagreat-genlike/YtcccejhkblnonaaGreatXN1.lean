/- The program's gen: a number as a map's key (nodeOf). -/
import Derived.Test.YtcccejhkblnonaaGreatKL
import Derived.Maps.OwnSet
import Derived.DeepKeys4
namespace Go.Proofs.YtcccejhkblnonaaGreat
open Go.RowKit
set_option linter.unusedVariables false

/-- Limbs, filled up to four. -/
def padL (xs : List Nat) : List Nat := xs ++ List.replicate (4 - xs.length) 0
theorem padL_len {xs : List Nat} (h : xs.length ≤ 4) : (padL xs).length = 4 := by simp [padL]; omega
theorem val_zeros : ∀ k : Nat, val (List.replicate k 0) = 0
  | 0 => rfl
  | k + 1 => by rw [List.replicate_succ]; simp [val, val_zeros k]
theorem val_app (xs ys : List Nat) : val (xs ++ ys) = val xs + 4294967296 ^ xs.length * val ys := by
  induction xs with
  | nil => simp [val]
  | cons x xs ih =>
    simp only [List.cons_append, val, ih, List.length_cons, Nat.pow_succ]
    grind
theorem val_pad (xs : List Nat) : val (padL xs) = val xs := by
  unfold padL
  rw [val_app, val_zeros]; simp
theorem padL_ok {xs : List Nat} (h : Ok xs) : Ok (padL xs) := h.append (Ok.replicate _)

/-- A number as a key. -/
def nodeL (q : Rat) : List Value := .bool (negQ q) :: (cellsOf (padL (lim q.num.natAbs)) ++ cellsOf (padL (lim q.den)))
theorem nodeL_len {q : Rat} (h : nr q ≤ 4) : (nodeL q).length = 9 := by
  have h1 : (lim q.num.natAbs).length ≤ 4 := Nat.le_trans (nr_num q) h
  have h2 : (lim q.den).length ≤ 4 := Nat.le_trans (nr_den q) h
  simp [nodeL, cellsOf, padL_len h1, padL_len h2]
theorem cellsOf_inj {xs ys : List Nat} (h : cellsOf xs = cellsOf ys) : xs = ys := by
  unfold cellsOf at h
  refine (List.map_inj_right (fun a b hab => ?_)).1 h
  simp at hab; omega
theorem nodeL_inj {p q : Rat} (hp : nr p ≤ 4) (hq : nr q ≤ 4) (h : nodeL p = nodeL q) : p = q := by
  have p1 : (lim p.num.natAbs).length ≤ 4 := Nat.le_trans (nr_num p) hp
  have q1 : (lim q.num.natAbs).length ≤ 4 := Nat.le_trans (nr_num q) hq
  unfold nodeL at h
  obtain ⟨h0, h1⟩ := List.cons.inj h
  have hl : (cellsOf (padL (lim p.num.natAbs))).length = (cellsOf (padL (lim q.num.natAbs))).length := by simp [cellsOf, padL_len p1, padL_len q1]
  obtain ⟨h2, h3⟩ := List.append_inj h1 hl
  have e1 := congrArg val (cellsOf_inj h2)
  have e2 := congrArg val (cellsOf_inj h3)
  rw [val_pad, val_pad, val_lim, val_lim] at e1 e2
  have e0 : negQ p = negQ q := by simpa using h0
  rw [← mkQ_self p, ← mkQ_self q, e0, e1, e2]

/-- copy(dst, src): dst a piece of a row of the call's own that holds other things, too. -/
theorem copyV_run {w : World} {g off n cap : Nat} {v : Value} {T : TypeId} {cs : List Value} {xs : List Nat} (hb : BlkV w g T cs) (hv : Rd w v xs) (hle : xs.length ≤ n) (hfit : off + n ≤ cs.length) :
    ∃ w', (∀ ty, (Builtin.copy_ #[32, 32] ty #[.slice (some ⟨g, off, none⟩) n cap, v]).run Tryz.prog w = .ok (goInt xs.length) w') ∧ BlkV w' g T (cs.take off ++ (cellsOf xs ++ cs.drop (off + xs.length))) ∧ Only g w w' := by
  by_cases h0 : xs.length = 0
  · obtain rfl : xs = [] := List.eq_nil_of_length_eq_zero h0
    have hs' : ∃ sp sc, v = .slice sp 0 sc := by
      rcases hv.2 with ⟨e, _⟩ | ⟨b, off, c, e, _⟩
      · exact ⟨none, 0, e⟩
      · exact ⟨_, _, e⟩
    obtain ⟨sp, sc, rfl⟩ := hs'
    exact ⟨w, fun ty => run_copy_none (P := Tryz.prog) w 32 32 ty 44 (some ⟨g, off, none⟩) sp n cap 0 sc Tryz.underlying32 size_u32 (by simp), by simpa [cellsOf] using hb, Only.refl _ _⟩
  · rcases hv.2 with ⟨_, e⟩ | ⟨b, so, c, rfl, h1, h2, h3, h4⟩
    · subst e; simp at h0
    · have e3 : (cellsOf xs).length = xs.length := by simp [cellsOf]
      refine ⟨w.setRow g (cs.take off ++ (cellsOf xs ++ cs.drop (off + xs.length))).toArray, fun ty => ?_, setRow_heap w g _ _ _ _ hb, ⟨rfl, rfl, rfl, by simp [World.setRow], fun k _ he => setRow_other w g k _ (by simp at he; omega)⟩⟩
      have := run_copy_row (P := Tryz.prog) w 32 32 ty 44 g off n cap ⟨b, so, none⟩ xs.length c cs.toArray T (cellsOf xs) Tryz.underlying32 size_u32 hb
        (by rw [e3]; exact (Nat.min_eq_left hle).symm) ?_ (by simp [cellsOf]; omega) ?_
      · rw [e3, List.append_assoc] at this; exact this
      · intro j u hj
        have hjl : j < xs.length := by
          rcases Nat.lt_or_ge j xs.length with hlt | hge
          · exact hlt
          · simp [cellsOf, List.getElem?_eq_none hge] at hj
        have := h3 j hjl
        simp [cellsOf, hjl] at hj
        rw [show (⟨b, so, none⟩ : Addr).add j = ⟨b, so + j, none⟩ from by unfold Addr.add; split <;> simp_all, this, ← hj]
        simp [hjl]
      · intro u hu
        simp only [cellsOf, List.mem_map] at hu
        obtain ⟨x, _, rfl⟩ := hu; rfl

theorem node_first (b : Value) {xs : List Nat} (h : xs.length ≤ 4) : (b :: cellsOf (List.replicate 8 0)).take 1 ++ (cellsOf xs ++ (b :: cellsOf (List.replicate 8 0)).drop (1 + xs.length)) = b :: (cellsOf (padL xs) ++ cellsOf (List.replicate 4 0)) := by
  rw [show 1 + xs.length = xs.length + 1 by omega]
  simp only [List.take_succ_cons, List.take_zero, List.drop_succ_cons, List.cons_append, List.nil_append, cellsOf, padL, List.map_append, List.map_replicate, List.drop_replicate]
  rw [show 8 - xs.length = (4 - xs.length) + 4 by omega, ← List.replicate_append_replicate, List.append_assoc]
theorem node_second (b : Value) {xs ys : List Nat} (h1 : xs.length ≤ 4) (h : ys.length ≤ 4) : (b :: (cellsOf (padL xs) ++ cellsOf (List.replicate 4 0))).take 5 ++ (cellsOf ys ++ (b :: (cellsOf (padL xs) ++ cellsOf (List.replicate 4 0))).drop (5 + ys.length)) = b :: (cellsOf (padL xs) ++ cellsOf (padL ys)) := by
  have e : (cellsOf (padL xs)).length = 4 := by simp [cellsOf, padL_len h1]
  rw [show 5 + ys.length = (4 + ys.length) + 1 by omega]
  simp only [List.take_succ_cons, List.drop_succ_cons, List.cons_append]
  rw [List.take_append_of_le_length (by omega), List.take_of_length_le (by omega), List.drop_append, List.drop_of_length_le (by omega), e, show 4 + ys.length - 4 = ys.length by omega]
  simp only [cellsOf, padL, List.map_append, List.map_replicate, List.drop_replicate, List.nil_append, List.append_assoc]

set_option maxHeartbeats 4000000 in
set_option maxRecDepth 20000 in
theorem nodeOf_any {w : World} {a : Value} {q : Rat} (ha : RV w a q) (bq : nr q ≤ 4) :
    Calls Tryz.prog 72 #[a] w fun e w' => e = .returned (.agg (nodeL q).toArray) ∧ Fwd w w' := by
  have l1 : (lim q.num.natAbs).length ≤ 4 := Nat.le_trans (nr_num q) bq
  have l2 : (lim q.den).length ≤ 4 := Nat.le_trans (nr_den q) bq
  obtain ⟨ao, ac, ap, ae, rfl, a1, a2, a3, a4, aN, aD⟩ := RW.open ha
  clear ha
  have HQ := hid (show nodeL q = .bool (negQ q) :: (cellsOf (padL (lim q.num.natAbs)) ++ cellsOf (padL (lim q.den))) from rfl)
  generalize nodeL q = NL at *
  unfold nl at a1 a3
  have e1 : nl q.num.natAbs = (lim q.num.natAbs).length := rfl
  have e2 : nl q.den = (lim q.den).length := rfl
  rw [e1, e2]
  have aN' : Rd w (.slice ao (lim q.num.natAbs).length ac) (lim q.num.natAbs) := aN
  have aD' : Rd w (.slice ap (lim q.den).length ae) (lim q.den) := aD
  clear aN aD e1 e2
  generalize lim q.num.natAbs = xs at *
  generalize lim q.den = ys at *
  generalize negQ q = s at *
  have kA : BlkV ((w.alloc (.cells #[.bool s, .slice ao xs.length ac, .slice ap ys.length ae] 34)).alloc (.cells (#[.bool false, .int .u32 0, .int .u32 0, .int .u32 0, .int .u32 0, .int .u32 0, .int .u32 0, .int .u32 0, .int .u32 0]) 93)) (w.heap.size) 34 [.bool s, .slice ao xs.length ac, .slice ap ys.length ae] := (BlkV.made' w (w.heap.size) (by simp) 34 [.bool s, .slice ao xs.length ac, .slice ap ys.length ae]).alloc _
  have HA := hid kA
  clear kA
  go_enter Tryz.func72, Tryz.ntmps72
  go_wp2_with fail
  obtain ⟨w3, hw3⟩ : ∃ w3, w3 = (((w.alloc (Obj.cells #[Value.bool s, Value.slice ao xs.length ac, Value.slice ap ys.length ae] 34)).alloc
          (Obj.cells #[Value.bool false, Value.int IntKind.u32 0, Value.int IntKind.u32 0, Value.int IntKind.u32 0, Value.int IntKind.u32 0, Value.int IntKind.u32 0, Value.int IntKind.u32 0, Value.int IntKind.u32 0, Value.int IntKind.u32 0] 93)).alloc
      (Obj.cells #[Value.bool s, Value.int IntKind.u32 0, Value.int IntKind.u32 0, Value.int IntKind.u32 0, Value.int IntKind.u32 0, Value.int IntKind.u32 0, Value.int IntKind.u32 0, Value.int IntKind.u32 0, Value.int IntKind.u32 0] 93)) := ⟨_, rfl⟩
  rw [← hw3]
  have kA : BlkV w3 w.heap.size 34 [.bool s, .slice ao xs.length ac, .slice ap ys.length ae] := by rw [hw3]; exact HA.out.alloc _
  have kR : BlkV w3 (w.heap.size + 1) 93 (.bool false :: cellsOf (List.replicate 8 0)) := by
    rw [hw3]
    exact (BlkV.made' _ (w.heap.size + 1) (by simp) _ (.bool false :: cellsOf (List.replicate 8 0))).alloc _
  have kV : BlkV w3 (w.heap.size + 1 + 1) 93 (.bool s :: cellsOf (List.replicate 8 0)) := by
    rw [hw3]
    exact BlkV.made' _ (w.heap.size + 1 + 1) (by simp) _ (.bool s :: cellsOf (List.replicate 8 0))
  have hF : Fwd w w3 := by rw [hw3]; exact (((Fwd.refl w).alloc _).alloc _).alloc _
  clear hw3 HA
  have aD0 := hid aD'
  have aN := hid (aN'.fwd hF)
  have aD := hid (aD'.fwd hF)
  clear aN' aD'
  have c1 := BlkV.cell kA 1 rfl
  have c2 := BlkV.cell kA 2 rfl
  have kA := hid kA
  have kR := hid kR
  have kV := hid kV
  have hF := hid hF
  obtain ⟨w4, hr4, kV4, hO4⟩ := copyV_run (cap := 4) (off := 1) (n := 4) kV.out.drew aN.out l1 (by simp [cellsOf])
  have hr4 : ∀ ty, (Builtin.copy_ #[32, 32] ty #[.slice (some ⟨w.heap.size + 1 + 1, 1, none⟩) 4 4, .slice ao xs.length ac]).run Tryz.prog w3.drew = .ok (.int .i64 (xs.length : Int)) w4 := hr4
  rw [node_first (.bool s) l1] at kV4
  have offD : Off (.slice ap ys.length ae) (w.heap.size + 1 + 1) := aD0.out.off (by omega)
  have aD4 := hid (Rd.only (show Rd w3.drew (.slice ap ys.length ae) ys from aD.out) hO4 offD)
  have kA4 := BlkV.only kA.out.drew hO4 (by omega)
  have kR4 := hid (BlkV.only kR.out.drew hO4 (by omega))
  have hF4 := hid (hF.out.drew.wrote hO4 (by omega))
  have kV4 := hid kV4
  have hO4 := hid hO4
  have d1 := BlkV.cell kA4 1 rfl
  have d2 := BlkV.cell kA4 2 rfl
  have kA4 := hid kA4
  go_region
  clear c1 c2 hr4
  go_wp2_with fail
  obtain ⟨w5, hr5, kV5, hO5⟩ := copyV_run (cap := 4) (off := 5) (n := 4) kV4.out.drew (show Rd w4.drew (.slice ap ys.length ae) ys from aD4.out) l2 (by simp [cellsOf, padL_len l1])
  have hr5 : ∀ ty, (Builtin.copy_ #[32, 32] ty #[.slice (some ⟨w.heap.size + 1 + 1, 5, none⟩) 4 4, .slice ap ys.length ae]).run Tryz.prog w4.drew = .ok (.int .i64 (ys.length : Int)) w5 := hr5
  rw [node_second (.bool s) l1 l2] at kV5
  have kR5 := BlkV.only kR4.out.drew hO5 (by omega)
  have hF5 := hid (hF4.out.drew.wrote hO5 (by omega))
  have d2' := d2
  go_region
  clear d1 d2 d2' hr5
  obtain ⟨x0, x1, x2, x3, hx⟩ : ∃ a b c d, padL xs = [a, b, c, d] := by
    have := padL_len l1
    match padL xs, this with
    | [a, b, c, d], _ => exact ⟨a, b, c, d, rfl⟩
  obtain ⟨y0, y1, y2, y3, hy⟩ : ∃ a b c d, padL ys = [a, b, c, d] := by
    have := padL_len l2
    match padL ys, this with
    | [a, b, c, d], _ => exact ⟨a, b, c, d, rfl⟩
  rw [hx, hy] at kV5
  have hq : NL = [.bool s, .int .u32 x0, .int .u32 x1, .int .u32 x2, .int .u32 x3, .int .u32 y0, .int .u32 y1, .int .u32 y2, .int .u32 y3] := by rw [HQ.out, hx, hy]; rfl
  have HQ := hid hq
  clear hq
  have v0 := BlkV.cell kV5 0 rfl
  have v1 := BlkV.cell kV5 1 rfl
  have v2 := BlkV.cell kV5 2 rfl
  have v3 := BlkV.cell kV5 3 rfl
  have v4 := BlkV.cell kV5 4 rfl
  have v5 := BlkV.cell kV5 5 rfl
  have v6 := BlkV.cell kV5 6 rfl
  have v7 := BlkV.cell kV5 7 rfl
  have v8 := BlkV.cell kV5 8 rfl
  have z0 := BlkV.frozen kR5 0
  have z1 := BlkV.frozen kR5 1
  have z2 := BlkV.frozen kR5 2
  have z3 := BlkV.frozen kR5 3
  have z4 := BlkV.frozen kR5 4
  have z5 := BlkV.frozen kR5 5
  have z6 := BlkV.frozen kR5 6
  have z7 := BlkV.frozen kR5 7
  have z8 := BlkV.frozen kR5 8
  have r0 := BlkV.cell kR5 0 rfl
  have r1 := BlkV.cell kR5 1 rfl
  have r2 := BlkV.cell kR5 2 rfl
  have r3 := BlkV.cell kR5 3 rfl
  have r4 := BlkV.cell kR5 4 rfl
  have r5 := BlkV.cell kR5 5 rfl
  have r6 := BlkV.cell kR5 6 rfl
  have r7 := BlkV.cell kR5 7 rfl
  have r8 := BlkV.cell kR5 8 rfl
  have kV5 := hid kV5
  have kR5 := hid kR5
  have hO5 := hid hO5
  go_wp2_with fail
  have hz := (BlkV.set (BlkV.set (BlkV.set (BlkV.set (BlkV.set (BlkV.set (BlkV.set (BlkV.set (BlkV.set kR5.out 0 (Value.bool s)) 1 (Value.int IntKind.u32 ↑x0)) 2 (Value.int IntKind.u32 ↑x1)) 3 (Value.int IntKind.u32 ↑x2)) 4 (Value.int IntKind.u32 ↑x3)) 5 (Value.int IntKind.u32 ↑y0)) 6 (Value.int IntKind.u32 ↑y1)) 7 (Value.int IntKind.u32 ↑y2)) 8 (Value.int IntKind.u32 ↑y3))
  have hon := ((((((((((Only.refl _ _ : Only (w.heap.size + 1) w5 w5).setv 0 (Value.bool s)).setv 1 (Value.int IntKind.u32 ↑x0)).setv 2 (Value.int IntKind.u32 ↑x1)).setv 3 (Value.int IntKind.u32 ↑x2)).setv 4 (Value.int IntKind.u32 ↑x3)).setv 5 (Value.int IntKind.u32 ↑y0)).setv 6 (Value.int IntKind.u32 ↑y1)).setv 7 (Value.int IntKind.u32 ↑y2)).setv 8 (Value.int IntKind.u32 ↑y3))
  generalize (((((((((w5.setCell ⟨w.heap.size + 1, 0, none⟩ (Value.bool s)).setCell ⟨w.heap.size + 1, 1, none⟩ (Value.int IntKind.u32 ↑x0)).setCell ⟨w.heap.size + 1, 2, none⟩ (Value.int IntKind.u32 ↑x1)).setCell ⟨w.heap.size + 1, 3, none⟩ (Value.int IntKind.u32 ↑x2)).setCell ⟨w.heap.size + 1, 4, none⟩ (Value.int IntKind.u32 ↑x3)).setCell ⟨w.heap.size + 1, 5, none⟩ (Value.int IntKind.u32 ↑y0)).setCell ⟨w.heap.size + 1, 6, none⟩ (Value.int IntKind.u32 ↑y1)).setCell ⟨w.heap.size + 1, 7, none⟩ (Value.int IntKind.u32 ↑y2)).setCell ⟨w.heap.size + 1, 8, none⟩ (Value.int IntKind.u32 ↑y3)) = wz at hz hon ⊢
  have e0 := BlkV.cell hz 0 rfl
  have e1 := BlkV.cell hz 1 rfl
  have e2 := BlkV.cell hz 2 rfl
  have e3 := BlkV.cell hz 3 rfl
  have e4 := BlkV.cell hz 4 rfl
  have e5 := BlkV.cell hz 5 rfl
  have e6 := BlkV.cell hz 6 rfl
  have e7 := BlkV.cell hz 7 rfl
  have e8 := BlkV.cell hz 8 rfl
  refine bodyPost_ret (by simp [results, Tryz.results72, go_sem, e0, e1, e2, e3, e4, e5, e6, e7, e8]; try rfl) rfl ?_
  exact ⟨by rw [HQ.out], hF5.out.wrote hon (by omega)⟩
end Go.Proofs.YtcccejhkblnonaaGreat
