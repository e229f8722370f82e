/- Contracts of points: out of a list, into one. -/
import Derived.Test.YtimlpehgafjkpaaXNT5
import Derived.Deep.Cut
namespace Go.Proofs.Ytimlpehgafjkpaa
open Go.RowKit Go.Maps
set_option linter.unusedVariables false
set_option linter.unusedSimpArgs false

theorem law_allocP {w : World} {ops : Array Oper} {rest : List Oper} {o : Oper} {a : Act} {Q : Exit → Act → World → Prop} (hg : o.guard = none) (hop : o.op = .alloc 57)
    (h : ∀ w', Arr w' w.heap.size (List.replicate 1024 0) → Fwd w w' → wpList Try.prog ops Q rest (a.put o.dst (.pointer (some ⟨w.heap.size, 0, none⟩))) w') : wpList Try.prog ops Q (o :: rest) a w := by
  obtain ⟨w', hrun, h1, h2⟩ := Arr.make w
  refine wpList_plain hg fun K hK => ?_
  unfold Oper.wp
  simp [execOp, hop, hrun, Result.andThen]
  exact hK _ _ (h w' h1 h2)
theorem law_boxP {w : World} {ops : Array Oper} {rest : List Oper} {o : Oper} {a : Act} {Q : Exit → Act → World → Prop} (hg : o.guard = none) (x : Operand) (hop : o.op = .box 57 x)
    (L : List Nat) (hx : a.eval x = ptsV L) (hl : L.length = 1024) (hL : Ok L)
    (h : ∀ w', Arr w' w.heap.size L → Fwd w w' → wpList Try.prog ops Q rest (a.put o.dst (.pointer (some ⟨w.heap.size, 0, none⟩))) w') : wpList Try.prog ops Q (o :: rest) a w := by
  obtain ⟨w', hrun, h1, h2⟩ := Arr.box w hl hL
  refine wpList_plain hg fun K hK => ?_
  unfold Oper.wp
  simp [execOp, hop, hx, hrun, Result.andThen]
  exact hK _ _ (h w' h1 h2)
theorem law_loadP {w : World} {ops : Array Oper} {rest : List Oper} {o : Oper} {a : Act} {Q : Exit → Act → World → Prop} (hg : o.guard = none) (x : Operand) (hop : o.op = .load 57 x)
    (g : Nat) (L : List Nat) (hx : a.eval x = .pointer (some ⟨g, 0, none⟩)) (hA : Arr w g L)
    (h : wpList Try.prog ops Q rest (a.put o.dst (ptsV L)) w) : wpList Try.prog ops Q (o :: rest) a w := by
  refine wpList_plain hg fun K hK => ?_
  unfold Oper.wp
  simp [execOp, hop, hx, hA.load, Result.andThen]
  exact hK _ _ h
theorem law_storeP {w : World} {ops : Array Oper} {rest : List Oper} {o : Oper} {a : Act} {Q : Exit → Act → World → Prop} (hg : o.guard = none) (x y : Operand) (hop : o.op = .store 57 x y)
    (g : Nat) (L M : List Nat) (hx : a.eval x = .pointer (some ⟨g, 0, none⟩)) (hy : a.eval y = ptsV M) (hA : Arr w g L) (hl : M.length = 1024) (hM : Ok M)
    (h : ∀ w', Arr w' g M → Only g w w' → wpList Try.prog ops Q rest (a.put o.dst undef) w') : wpList Try.prog ops Q (o :: rest) a w := by
  obtain ⟨w', hrun, h1, h2⟩ := hA.store hl hM
  refine wpList_plain hg fun K hK => ?_
  unfold Oper.wp
  simp [execOp, hop, hx, hy, hrun, Result.andThen]
  exact hK _ _ (h w' h1 h2)

/-- copy(p[:], l). -/
theorem Arr.copy {w : World} {g cap : Nat} {v : Value} {L xs : List Nat} (hb : Arr w g L) (hv : Rd w v xs) (hle : xs.length ≤ 1024) :
    ∃ w', (∀ ty, (Builtin.copy_ #[27, 27] ty #[.slice (some ⟨g, 0, none⟩) 1024 cap, v]).run Try.prog w = .ok (goInt xs.length) w') ∧ Arr w' g (xs ++ L.drop xs.length) ∧ Only g w w' := by
  have hok : Ok (xs ++ L.drop xs.length) := hv.ok.append (hb.2.2.drop _)
  have hlen : (xs ++ L.drop xs.length).length = 1024 := by
    have := hb.2.1
    simp; omega
  by_cases h0 : xs.length = 0
  · obtain rfl : xs = [] := List.eq_nil_of_length_eq_zero h0
    have hs' : ∃ sp sc, v = .slice sp 0 sc := by
      rcases hv.2 with ⟨e, _⟩ | ⟨b, off, c, e, _⟩
      · exact ⟨none, 0, e⟩
      · exact ⟨_, _, e⟩
    obtain ⟨sp, sc, rfl⟩ := hs'
    exact ⟨w, fun ty => run_copy_none (P := Try.prog) w 27 27 ty 22 (some ⟨g, 0, none⟩) sp 1024 cap 0 sc Try.underlying27 size_u32 (by simp), by simpa using hb, Only.refl _ _⟩
  · rcases hv.2 with ⟨_, e⟩ | ⟨b, so, c, rfl, h1, h2, h3, h4⟩
    · subst e; simp at h0
    · have e3 : (cellsOf xs).length = xs.length := by simp [cellsOf]
      have e4 : (cellsOf L).length = 1024 := by simp [cellsOf, hb.2.1]
      have e5 : (cellsOf xs ++ (cellsOf L).drop xs.length) = cellsOf (xs ++ L.drop xs.length) := by simp [cellsOf, List.map_drop]
      refine ⟨w.setRow g (cellsOf (xs ++ L.drop xs.length)).toArray, fun ty => ?_, ⟨setRow_heap w g _ _ _ _ hb.1, hlen, hok⟩, ⟨rfl, rfl, rfl, by simp [World.setRow], fun k _ he => setRow_other w g k _ (by simp at he; omega)⟩⟩
      have := run_copy_row (P := Try.prog) w 27 27 ty 22 g 0 1024 cap ⟨b, so, none⟩ xs.length c (cellsOf L).toArray 57 (cellsOf xs) Try.underlying27 size_u32 hb.1
        (by rw [e3]; exact (Nat.min_eq_left hle).symm) ?_ (by rw [e3]; simp [e4]; omega) ?_
      · rw [e3] at this
        simp only [List.take_zero, List.nil_append, Nat.zero_add] at this
        rw [← e5]
        simpa using this
      · intro j u hj
        have hjl : j < xs.length := by
          rcases Nat.lt_or_ge j xs.length with hlt | hge
          · exact hlt
          · simp [cellsOf, List.getElem?_eq_none hge] at hj
        have := h3 j hjl
        simp [cellsOf, hjl] at hj
        rw [show (⟨b, so, none⟩ : Addr).add j = ⟨b, so + j, none⟩ from by unfold Addr.add; split <;> simp_all, this, ← hj]
        simp [hjl]
      · intro u hu
        simp only [cellsOf, List.mem_map] at hu
        obtain ⟨x, _, rfl⟩ := hu; rfl

/-- Numbers, filled up with noughts. -/
def padP (xs : List Nat) : List Nat := xs ++ List.replicate (1024 - xs.length) 0
theorem padP_len {xs : List Nat} (h : xs.length ≤ 1024) : (padP xs).length = 1024 := by unfold padP; rw [List.length_append, List.length_replicate]; omega
theorem padP_getD (xs : List Nat) (i : Nat) : (padP xs).getD i 0 = xs.getD i 0 := by
  unfold padP
  rw [List.getD_eq_getElem?_getD, List.getD_eq_getElem?_getD, List.getElem?_append]
  split
  · rfl
  · rename_i h
    rw [List.getElem?_eq_none (l := xs) (by omega)]
    by_cases h2 : i - xs.length < 1024 - xs.length
    · rw [List.getElem?_replicate, if_pos h2]; rfl
    · rw [List.getElem?_replicate, if_neg h2]

theorem zeroP : ∃ Z : Array Value, (∀ w, (zeroValue 57).run Try.prog w = .ok (.agg Z) w) ∧ Hid (∀ w : World, Arr (w.alloc (.cells Z 57)) w.heap.size (List.replicate 1024 0)) :=
  ⟨_, zero_pts, hid fun w => ⟨heap_alloc_new w _, List.length_replicate, Ok.replicate _⟩⟩

set_option maxRecDepth 20000 in
theorem pointsOf_any {w : World} {v : Value} {xs : List Nat} (hv : Rd w v xs) (hle : xs.length ≤ 1024) :
    Calls Try.prog 24 #[v] w fun e w' => e = .returned (ptsV (padP xs)) ∧ Fwd w w' := by
  obtain ⟨Z, hz, HZ⟩ := zeroP
  have hA1 := (HZ.out w).fwd ((Fwd.refl _).alloc (.cells Z 57))
  have hF : Fwd w ((w.alloc (.cells Z 57)).alloc (.cells Z 57)) := ((Fwd.refl w).alloc _).alloc _
  have hA2 := HZ.out (w.alloc (.cells Z 57))
  obtain ⟨w3, hr3, hA3, hO3⟩ := hA2.copy (cap := 1024) (hv.fwd hF) hle
  have hs : (w.alloc (.cells Z 57)).heap.size = w.heap.size + 1 := by simp
  rw [hs] at hr3 hA3 hO3
  have hr3 : ∀ ty, (Builtin.copy_ #[27, 27] ty #[.slice (some ⟨w.heap.size + 1, 0, none⟩) 1024 1024, v]).run Try.prog ((w.alloc (.cells Z 57)).alloc (.cells Z 57)) = .ok (.int .i64 (xs.length : Int)) w3 := hr3
  rw [List.drop_replicate] at hA3
  have hA3 : Arr w3 (w.heap.size + 1) (padP xs) := hA3
  have HA3 := hid hA3
  have HA1 := hid (hA1.only hO3 (by omega))
  have hF3 := hid (hF.wrote hO3 (by omega))
  clear hA1 hA2 hA3 hO3 hF hs
  go_enter Try.func24, Try.ntmps24
  go_upto_region 3 with fail
  refine wp_region_list ?_
  refine law_loadP rfl _ rfl _ _ rfl HA3.out ?_
  refine law_storeP rfl _ _ rfl _ _ _ rfl rfl HA1.out (padP_len hle) HA3.out.2.2 ?_
  intro w4 hA4 hO4
  have HA4 := hid hA4
  have HF4 := hid (hF3.out.wrote hO4 (Nat.le_refl _))
  clear hA4 hO4 hr3 hz
  go_wp2_with fail
  refine bodyPost_ret (results_cell_row Try.results24 _ _ _ _ _ _ _ rfl HA4.out.1 Try.underlying57 rfl (by rw [size_pts, cells_size, HA4.out.2.1])) rfl ?_
  exact ⟨rfl, HF4.out⟩
end Go.Proofs.Ytimlpehgafjkpaa
