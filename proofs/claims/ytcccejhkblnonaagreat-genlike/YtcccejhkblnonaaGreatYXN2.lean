/- The program's gen: does a number of one row stand in another one (meet). -/
/- The program's gen: a number that is refused; the second telling's Neg. -/
import Derived.Test.YtcccejhkblnonaaGreatXN1
import Derived.Test.YtcccejhkblnonaaGreatXP14
namespace Go.Proofs.YtcccejhkblnonaaGreat
open Go.RowKit Go.Maps
set_option linter.unusedVariables false
set_option linter.unusedSimpArgs false

/-- A row of rational numbers. -/
def RowV (w : World) (v : Value) (qs : List Rat) : Prop :=
  (v = .slice none 0 0 ∧ qs = []) ∨ ∃ b off cap, v = .slice (some ⟨b, off, none⟩) qs.length cap ∧ qs.length ≤ cap ∧ cap ≤ maxLen ∧ b < w.heap.size ∧
    ∀ i, i < qs.length → ∃ x y, w.cell? ⟨b, off + i * 3, none⟩ = some (.bool (negQ (qs.getD i 0))) ∧ w.cell? ⟨b, off + i * 3 + 1, none⟩ = some x ∧ w.cell? ⟨b, off + i * 3 + 2, none⟩ = some y ∧ Num w x (qs.getD i 0).num.natAbs ∧ Num w y (qs.getD i 0).den
theorem RowV.fwd {w w' : World} {v : Value} {qs : List Rat} (h : RowV w v qs) (k : Fwd w w') : RowV w' v qs := by
  rcases h with h | ⟨b, off, cap, h1, h2, h3, h4, h5⟩
  · exact .inl h
  · refine .inr ⟨b, off, cap, h1, h2, h3, Nat.lt_of_lt_of_le h4 k.size, fun i hi => ?_⟩
    obtain ⟨x, y, c1, c2, c3, n1, n2⟩ := h5 i hi
    exact ⟨x, y, k.cell c1, k.cell c2, k.cell c3, n1.fwd k, n2.fwd k⟩

/-- Is a number of the one a number of the other? -/
def meetB (ps qs : List Rat) : Bool := qs.any fun q => ps.any fun p => decide (p = q)

theorem meetB_take (ps qs : List Rat) (k : Nat) (hk : k < qs.length) : meetB ps (qs.take (k + 1)) = (meetB ps (qs.take k) || ps.any fun p => decide (p = qs.getD k 0)) := by
  unfold meetB
  rw [List.take_succ_eq_append_getElem hk, List.any_append]
  simp [hk]
theorem meetB_true {ps qs : List Rat} {q : Rat} (hq : q ∈ qs) (h : (ps.any fun p => decide (p = q)) = true) : meetB ps qs = true := List.any_eq_true.2 ⟨q, hq, h⟩
theorem row_node : (93 : TypeId) < Tryz.prog.types.size := of_decide_eq_true (by kernel_rfl)
theorem wide_node : (match Tryz.prog.underlying 93 with | some (.array _ _) | some (.struct _) => true | _ => false) = true := by kernel_rfl
theorem key_node : Tryz.prog.keyTypeAt (Tryz.prog.types.size + 1) 93 = true := by kernel_rfl
theorem laid_out : laidOutB Tryz.prog = true := by kernel_rfl
set_option maxRecDepth 20000 in
theorem keyed_node : Keyed Tryz.prog 93 := Keyed.of_law (deep_law_laid laid_out (m := 4) (by omega) row_node (by kernel_rfl) wide_node)
theorem zero_unit (w : World) : (zeroValue 90).run Tryz.prog w = .ok (.agg #[]) w := by kernel_rfl

theorem wf_limb {x : Nat} (h : x < 4294967296) : (Lit.int .u32 (x : Int)).wf = true := by
  simp [Lit.wf, IntKind.min, IntKind.max, IntKind.signed, IntKind.bits]
  omega
theorem keyOf_node {q : Rat} (h : nr q ≤ 4) : ∃ l, keyOf Tryz.prog 93 (.agg (nodeL q).toArray) = some l := by
  have l1 : (lim q.num.natAbs).length ≤ 4 := Nat.le_trans (nr_num q) h
  have l2 : (lim q.den).length ≤ 4 := Nat.le_trans (nr_den q) h
  have k1 := padL_len l1
  have k2 := padL_len l2
  have o1 := padL_ok (ok_lim q.num.natAbs)
  have o2 := padL_ok (ok_lim q.den)
  unfold nodeL
  generalize padL (lim q.num.natAbs) = xs at *
  generalize padL (lim q.den) = ys at *
  obtain ⟨m, hm⟩ : ∃ m, Tryz.prog.types.size + 1 = m + 3 := ⟨Tryz.prog.types.size - 2, by have : 2 ≤ Tryz.prog.types.size := of_decide_eq_true (by kernel_rfl); omega⟩
  have h1 : Tryz.prog.cellsOf 93 = 9 := by kernel_rfl
  have h2 : Tryz.prog.cellsOf 91 = 4 := by kernel_rfl
  have h3 : Tryz.prog.cellsOf 44 = 1 := by kernel_rfl
  have h4 : Tryz.prog.cellsOf 4 = 1 := by kernel_rfl
  have hkt : Tryz.prog.keyType 93 = true := key_node
  match xs, k1, ys, k2 with
  | [a, b, c, d], _, [e, f, g, i], _ =>
    have wa := wf_limb (o1 a (by simp))
    have wb := wf_limb (o1 b (by simp))
    have wc := wf_limb (o1 c (by simp))
    have wd := wf_limb (o1 d (by simp))
    have we := wf_limb (o2 e (by simp))
    have wf := wf_limb (o2 f (by simp))
    have wg := wf_limb (o2 g (by simp))
    have wi := wf_limb (o2 i (by simp))
    rw [← Option.isSome_iff_exists]
    unfold keyOf
    simp only [Tryz.underlying93]
    rw [if_pos (by simp [hkt, Value.formed, Tryz.underlying93, h1, cellsOf]), hm]
    simp only [Program.keyLits, Tryz.underlying93, Value.cells, cellsOf, List.map_cons, List.map_nil, List.cons_append, List.nil_append]
    rw [if_pos (by simp [h1])]
    simp [Program.keyLits, Tryz.underlying91, Tryz.underlying44, Tryz.underlying4, h1, h2, h3, h4, List.range_succ, wa, wb, wc, wd, we, wf, wg, wi]

/-- The set of the numbers. -/
def setQ (K : Rat → Lit) (qs : List Rat) : DataW Unit := setOf (.agg []) (qs.map K)
theorem setQ_nil (K : Rat → Lit) : setQ K [] = .map [] := rfl
theorem setQ_snoc (K : Rat → Lit) (qs : List Rat) (q : Rat) : setQ K (qs ++ [q]) = (setQ K qs).put (K q) (.agg []) := by
  unfold setQ setOf
  rw [List.map_append, List.foldl_append]; rfl
theorem setQ_take (K : Rat → Lit) (qs : List Rat) (k : Nat) (hk : k < qs.length) : setQ K (qs.take (k + 1)) = (setQ K (qs.take k)).put (K (qs.getD k 0)) (.agg []) := by
  rw [List.take_succ_eq_append_getElem hk, setQ_snoc]
  simp [hk]

/-- A row, opened at a place. -/
theorem RowV.open {w : World} {v : Value} {qs : List Rat} (h : RowV w v qs) : ∃ base cap, v = .slice base qs.length cap ∧ qs.length ≤ cap ∧ cap ≤ maxLen ∧
    ∀ w' i, Fwd w w' → i < qs.length → ∃ b off x y, base = some ⟨b, off, none⟩ ∧ w'.cell? ⟨b, off + i * 3, none⟩ = some (.bool (negQ (qs.getD i 0))) ∧ w'.cell? ⟨b, off + i * 3 + 1, none⟩ = some x ∧ w'.cell? ⟨b, off + i * 3 + 2, none⟩ = some y ∧ RV w' (.agg #[.bool (negQ (qs.getD i 0)), x, y]) (qs.getD i 0) := by
  rcases h with ⟨rfl, rfl⟩ | ⟨b, off, cap, rfl, h2, h3, h4, h5⟩
  · exact ⟨none, 0, rfl, Nat.le_refl _, by unfold maxLen; omega, fun w' i _ hi => by simp at hi⟩
  · refine ⟨some ⟨b, off, none⟩, cap, rfl, h2, h3, fun w' i hw hi => ?_⟩
    obtain ⟨x, y, c1, c2, c3, n1, n2⟩ := h5 i hi
    exact ⟨b, off, x, y, rfl, hw.cell c1, hw.cell c2, hw.cell c3, ⟨x, y, rfl, n1.fwd hw, n2.fwd hw⟩⟩

theorem RV.sl1 {w : World} {s : Bool} {x y : Value} {q : Rat} (h : RV w (.agg #[.bool s, x, y]) q) : Sl x := by
  obtain ⟨a, b, e, h1, h2⟩ := h
  simp at e
  obtain ⟨_, rfl, rfl⟩ := e
  exact h1.sl
theorem RV.sl2 {w : World} {s : Bool} {x y : Value} {q : Rat} (h : RV w (.agg #[.bool s, x, y]) q) : Sl y := by
  obtain ⟨a, b, e, h1, h2⟩ := h
  simp at e
  obtain ⟨_, rfl, rfl⟩ := e
  exact h2.sl

theorem has_setQ {K : Rat → Lit} (hK : ∀ q, nr q ≤ 4 → keyOf Tryz.prog 93 (.agg (nodeL q).toArray) = some (K q)) {ps : List Rat} (bp : ∀ p ∈ ps, nr p ≤ 4) {q : Rat} (hq : nr q ≤ 4) : Maps.has (setQ K ps) (K q) = ps.any fun p => decide (p = q) := by
  unfold setQ
  rw [has_setOf _ _ _ (fun x hx => by
    obtain ⟨p, hp, rfl⟩ := List.mem_map.1 hx
    exact keyed_node.key (hK p (bp p hp)))]
  rw [List.any_map]
  rw [Bool.eq_iff_iff, List.any_eq_true, List.any_eq_true]
  have key : ∀ p ∈ ps, (Lit.sameKey (K p) (K q) = true ↔ decide (p = q) = true) := by
    intro p hp
    by_cases e : p = q
    · subst e
      simp only [decide_true, iff_true]
      exact WideAt.sameKey_self (keyed_node.key (hK p hq))
    · have hne : K p ≠ K q := fun h => by
        have h1 := hK p (bp p hp)
        rw [h] at h1
        have := keyed_node.inj h1 (hK q hq)
        simp only [Value.agg.injEq] at this
        exact e (nodeL_inj (bp p hp) hq (by simpa using this))
      rw [sameKey_ne hne]
      simp [e]
  constructor
  · rintro ⟨p, hp, h⟩; exact ⟨p, hp, (key p hp).1 h⟩
  · rintro ⟨p, hp, h⟩; exact ⟨p, hp, (key p hp).2 h⟩

set_option maxHeartbeats 4000000 in
set_option maxRecDepth 20000 in
theorem meet_any {w : World} {a b : Value} {ps qs : List Rat} (ha : RowV w a ps) (hb : RowV w b qs) (lp : ps.length ≤ 100000) (lq : qs.length ≤ 100000) (bp : ∀ p ∈ ps, nr p ≤ 4) (bq : ∀ q ∈ qs, nr q ≤ 4) :
    Calls Tryz.prog 46 #[a, b] w fun e w' => e = .returned (.bool (meetB ps qs)) ∧ Fwd w w' := by
  obtain ⟨K, hK⟩ : ∃ K : Rat → Lit, ∀ q, nr q ≤ 4 → keyOf Tryz.prog 93 (.agg (nodeL q).toArray) = some (K q) :=
    ⟨fun q => (keyOf Tryz.prog 93 (.agg (nodeL q).toArray)).getD (.bool false), fun q hq => by obtain ⟨l, hl⟩ := keyOf_node hq; simp only [hl, Option.getD_some]⟩
  obtain ⟨pb, pc, rfl, p1, p2, p3⟩ := ha.open
  obtain ⟨qb, qc, rfl, q1, q2, q3⟩ := hb.open
  unfold maxLen at p2 q2
  have P3 := hid p3
  have Q3 := hid q3
  have BP := hid bp
  have BQ := hid bq
  have HK := hid hK
  clear p3 q3 ha hb bp bq hK
  have hmm := @run_makeMap Tryz.prog
  go_enter Tryz.func46, Tryz.ntmps46
  go_wp2_with fail
  go_loopw [15] (fun i wr => ∃ k : Nat, k ≤ ps.length ∧ i = .int .i64 k ∧ wr.ownsMap Tryz.prog 93 unitElem w.heap.size k (setQ K (ps.take k)) ∧ Fwd w wr ∧ w.heap.size < wr.heap.size)
    (fun i _ => ps.length - (intOf i).toNat)
  case atStart => exact ⟨0, Nat.zero_le _, rfl, World.ownsMap_made _ _ _ _, (Fwd.refl w).alloc _, by simp⟩
  case round =>
    obtain ⟨k, hk, rfl, hown, hf, hsz⟩ := hrel
    have HF := hid hf
    have HO := hid hown
    clear hf hown
    by_cases hlt : k < ps.length
    · obtain ⟨bb, off, x, y, rfl, c0, c1, c2, hv⟩ := P3.out wr k HF.out hlt
      have hbp := BP.out (ps.getD k 0) (by simp [hlt])
      have hset := hid (setQ_take K ps k hlt)
      generalize ps.getD k 0 = p at *
      obtain ⟨xo, xn, xc, rfl⟩ := hv.sl1
      obtain ⟨yo, yn, yc, rfl⟩ := hv.sl2
      have hv := hid hv
      go_wp2_with fail
      refine (nodeOf_any (hv.out.fwd ((Fwd.refl wr).alloc _)) hbp).mono ?_
      rintro e w1 ⟨rfl, hf1⟩
      have hkey := HK.out p hbp
      have ho1 : w1.ownsMap Tryz.prog 93 unitElem w.heap.size k (setQ K (ps.take k)) := (HO.out.alloc _).kept (hf1.only (w.heap.size + 1)) (by simp)
      have hs1 := hf1.size
      have hF1 := hid ((HF.out.alloc _).trans hf1)
      clear hf1
      go_wp2_with (first
        | (at_mapUpdate; refine wpList_mapUpdate_own _ rfl _ _ _ 89 rfl 93 90 keyed_node Tryz.underlying89 (unitElem (H := Unit)) w.heap.size k _ rfl ho1 (by unfold maxLen; omega) _ _ _ rfl rfl hkey _ [] unitElem_mk ?_; intro w2 hown2 hgrow2))
      go_roundw
      case rel =>
        refine ⟨k + 1, by omega, by go_num, ?_, hF1.out.wrote hgrow2 (Nat.le_refl _), by have := hgrow2.size; simp at hs1; omega⟩
        rw [hset.out]; exact hown2
      case measure => simp [intOf]; omega
    · go_wp2_with fail
      obtain rfl : k = ps.length := by omega
      have hown : wr.ownsMap Tryz.prog 93 unitElem w.heap.size ps.length (setQ K ps) := by have := HO.out; rwa [List.take_length] at this
      clear HO
      go_loopw [26] (fun i ws => ∃ k : Nat, k ≤ qs.length ∧ i = .int .i64 k ∧ ws.ownsMap Tryz.prog 93 unitElem w.heap.size ps.length (setQ K ps) ∧ Fwd w ws ∧ meetB ps (qs.take k) = false)
        (fun i _ => qs.length - (intOf i).toNat)
      case atStart => exact ⟨0, Nat.zero_le _, rfl, hown, HF.out, rfl⟩
      case round =>
        obtain ⟨j, hj, rfl, hown', hf', hno⟩ := hrel
        have HF' := hid hf'
        have HO' := hid hown'
        have HN := hid hno
        clear hf' hown' hno
        by_cases hlt' : j < qs.length
        · obtain ⟨bb, off, x, y, rfl, c0, c1, c2, hv⟩ := Q3.out _ j HF'.out hlt'
          have hbq := BQ.out (qs.getD j 0) (by simp [hlt'])
          have hset := hid (meetB_take ps qs j hlt')
          have hhas := has_setQ HK.out BP.out hbq
          have hmem := hid (show qs.getD j 0 ∈ qs by simp [hlt'])
          generalize qs.getD j 0 = q at *
          obtain ⟨xo, xn, xc, rfl⟩ := hv.sl1
          obtain ⟨yo, yn, yc, rfl⟩ := hv.sl2
          have hv := hid hv
          go_wp2_with fail
          refine (nodeOf_any (hv.out.fwd ((Fwd.refl _).alloc _)) hbq).mono ?_
          rintro e w1 ⟨rfl, hf1⟩
          have hkey := HK.out q hbq
          have ho1 : w1.ownsMap Tryz.prog 93 unitElem w.heap.size ps.length (setQ K ps) := (HO'.out.alloc _).kept (hf1.only (w.heap.size + 1)) (by simp)
          have hF1 := hid ((HF'.out.alloc _).trans hf1)
          clear hf1
          have HO1 := hid ho1
          cases hb : ps.any fun p => decide (p = q) with
          | true =>
            rw [hb] at hhas
            go_wp2_with (first
              | (at_lookup; refine wpList_lookup_own_unit _ rfl _ _ 89 rfl 93 90 keyed_node Tryz.underlying89 (zero_unit _) w.heap.size ps.length _ rfl ho1 _ _ rfl hkey ?_; rw [hhas]))
            go_ret
            exact ⟨by rw [meetB_true hmem.out hb]; rfl, hF1.out.alloc _⟩
          | false =>
            rw [hb] at hhas
            go_wp2_with (first
              | (at_lookup; refine wpList_lookup_own_unit _ rfl _ _ 89 rfl 93 90 keyed_node Tryz.underlying89 (zero_unit _) w.heap.size ps.length _ rfl ho1 _ _ rfl hkey ?_; rw [hhas]))
            go_roundw
            case rel => exact ⟨j + 1, by omega, by go_num, HO1.out.alloc _, hF1.out.alloc _, by rw [hset.out, HN.out, hb]; rfl⟩
            case measure => simp [intOf]; omega
        · go_wp2_with fail
          obtain rfl : j = qs.length := by omega
          go_ret
          exact ⟨by rw [List.take_length] at HN; rw [HN.out]; rfl, HF'.out⟩
end Go.Proofs.YtcccejhkblnonaaGreat

namespace Go.Proofs.YtcccejhkblnonaaGreat
open Go.RowKit
set_option linter.unusedVariables false
set_option linter.unusedSimpArgs false

theorem Rd.sl {w : World} {v : Value} {xs : List Nat} (h : Rd w v xs) : ∃ a c, v = .slice a xs.length c ∧ xs.length ≤ c ∧ c ≤ maxLen := by
  rcases h.2 with ⟨rfl, rfl⟩ | ⟨b, off, cap, rfl, h1, h2, _⟩
  · exact ⟨none, 0, rfl, Nat.le_refl _, by unfold maxLen; omega⟩
  · exact ⟨_, cap, rfl, h1, h2⟩

def refusedR (s : Bool) (xs ys : List Nat) : Bool := decide (4 < xs.length) || (decide (4 < ys.length) || !rightR s xs ys)

set_option maxHeartbeats 4000000 in
set_option maxRecDepth 20000 in
theorem refused_any {w : World} {a : Value} {s : Bool} {xs ys : List Nat} (ha : RawA w a s xs ys) (bx : xs.length ≤ 1000) (by' : ys.length ≤ 1000) :
    Calls Tryz.prog 71 #[a] w fun e w' => e = .returned (.bool (refusedR s xs ys)) ∧ Fwd w w' := by
  have HA := hid ha
  obtain ⟨vN, vD, rfl, h1, h2⟩ := ha
  obtain ⟨ao, ac, rfl, a1, a2⟩ := h1.sl
  obtain ⟨bo, bc, rfl, b1, b2⟩ := h2.sl
  clear h1 h2
  unfold maxLen at a2 b2
  have HR := hid (show refusedR s xs ys = (decide (4 < xs.length) || (decide (4 < ys.length) || !rightR s xs ys)) from rfl)
  generalize refusedR s xs ys = R at *
  by_cases hx : 4 < xs.length
  · go_enter Tryz.func71, Tryz.ntmps71
    have hx' : (4 : Int) < xs.length := by omega
    go_wp2_with fail
    go_ret
    exact ⟨by rw [HR.out, decide_eq_true hx]; rfl, (Fwd.refl w).alloc _⟩
  · have hx' : ¬ (4 : Int) < xs.length := by omega
    by_cases hy : 4 < ys.length
    · go_enter Tryz.func71, Tryz.ntmps71
      have hy' : (4 : Int) < ys.length := by omega
      go_wp2_with fail
      go_ret
      exact ⟨by rw [HR.out, decide_eq_true hy, decide_eq_false hx]; rfl, (Fwd.refl w).alloc _⟩
    · have hy' : ¬ (4 : Int) < ys.length := by omega
      go_enter Tryz.func71, Tryz.ntmps71
      go_wp2_with fail
      refine (rright_any (HA.out.fwd ((Fwd.refl w).alloc _)) bx by').mono ?_
      rintro e w1 ⟨rfl, hf⟩
      go_wp2_with fail
      go_ret
      exact ⟨by rw [HR.out, decide_eq_false hx, decide_eq_false hy]; simp, ((Fwd.refl w).alloc _).trans hf⟩

end Go.Proofs.YtcccejhkblnonaaGreat
