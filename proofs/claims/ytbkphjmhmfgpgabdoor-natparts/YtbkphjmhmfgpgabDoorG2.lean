/- Contracts of nat's bitsFrom and foresee. -/
import Derived.Test.YtbkphjmhmfgpgabDoorD6
import Derived.Test.YtbkphjmhmfgpgabDoorS3
import Derived.Test.YtbkphjmhmfgpgabDoorG1
namespace Go.Proofs.YtbkphjmhmfgpgabDoor
open Go.RowKit
set_option linter.unusedVariables false

theorem mod_join (v T Q R x2 : Nat) (hQR : Q * R = 18446744073709551616) (hv : v < 18446744073709551616) (hQ : Q ∣ 4294967296) (hQ0 : 0 < Q) (hx : x2 = T % 4294967296) :
    v / Q + x2 * R % 18446744073709551616 = (v + 18446744073709551616 * T) / Q % 18446744073709551616 ∧ v / Q < R ∧ x2 * R % 18446744073709551616 % R = 0 := by
  have hR0 : 0 < R := by
    rcases Nat.eq_zero_or_pos R with h | h
    · rw [h] at hQR; omega
    · exact h
  have hvq : v / Q < R := by rw [Nat.div_lt_iff_lt_mul hQ0, Nat.mul_comm, hQR]; exact hv
  have e1 : (v + 18446744073709551616 * T) / Q = v / Q + R * T := by
    rw [← hQR, Nat.mul_assoc, Nat.add_mul_div_left _ _ hQ0]
  have ed : x2 % Q = T % Q := by rw [hx, Nat.mod_mod_of_dvd _ hQ]
  have e2 : x2 * R % 18446744073709551616 = (T % Q) * R := by
    rw [← hQR, Nat.mul_mod_mul_right, ed]
  have hd : T % Q < Q := Nat.mod_lt _ hQ0
  have hT := Nat.div_add_mod T Q
  generalize T % Q = d at *
  generalize T / Q = c at *
  refine ⟨?_, hvq, by rw [e2]; exact Nat.mul_mod_left _ _⟩
  rw [e1, e2]
  have e3 : R * T = R * d + 18446744073709551616 * c := by rw [← hT, ← hQR]; grind
  have hb : (d + 1) * R ≤ Q * R := Nat.mul_le_mul_right _ hd
  rw [e3, ← Nat.add_assoc, Nat.add_mul_mod_self_left, Nat.mod_eq_of_lt]
  · rw [Nat.mul_comm R d]
  · rw [hQR, Nat.add_mul] at hb
    rw [Nat.mul_comm R d]; omega

/-- Block g holds these cells. -/
def BlkV (w : World) (g : Nat) (T : TypeId) (cs : List Value) : Prop := w.heap[g]? = some (.cells cs.toArray T (0, 0))
theorem BlkV.lt {w : World} {g : Nat} {T : TypeId} {cs : List Value} (h : BlkV w g T cs) : g < w.heap.size := (Array.getElem?_eq_some_iff.1 h).1
theorem BlkV.cell {w : World} {g : Nat} {T : TypeId} {cs : List Value} (h : BlkV w g T cs) (i : Nat) {v : Value} (hi : cs[i]? = some v) : w.cell? ⟨g, i, none⟩ = some v := by
  unfold BlkV at h
  simp [World.cell?, h, hi]
theorem BlkV.frozen {w : World} {g : Nat} {T : TypeId} {cs : List Value} (h : BlkV w g T cs) (i : Nat) : w.frozen? ⟨g, i, none⟩ = false := by
  unfold BlkV at h
  simp [World.frozen?, h]
theorem BlkV.set {w : World} {g : Nat} {T : TypeId} {cs : List Value} (h : BlkV w g T cs) (i : Nat) (v : Value) : BlkV (w.setCell ⟨g, i, none⟩ v) g T (cs.set i v) := by
  unfold BlkV at h ⊢
  simp only [World.setCell, Array.getElem?_modify, if_true, h, Option.map_some]
  simp
theorem BlkV.fwd {w w' : World} {g : Nat} {T : TypeId} {cs : List Value} (h : BlkV w g T cs) (k : Fwd w w') : BlkV w' g T cs := k.blockAt h
theorem BlkV.only {w w' : World} {g b : Nat} {T : TypeId} {cs : List Value} (h : BlkV w b T cs) (k : Only g w w') (hne : b ≠ g) : BlkV w' b T cs := k.blockAt h hne
theorem BlkV.drewN {w : World} {g : Nat} {T : TypeId} {cs : List Value} (h : BlkV w g T cs) (n : Nat) : BlkV (w.drewN n) g T cs := h
theorem BlkV.made (w : World) (T : TypeId) (cs : List Value) : BlkV (w.alloc (.cells cs.toArray T)) w.heap.size T cs := heap_alloc_new w _
theorem BlkV.made2 (w : World) (T : TypeId) (o : Obj) (cs : List Value) : BlkV ((w.alloc o).alloc (.cells cs.toArray T)) (w.heap.size + 1) T cs := by
  have := BlkV.made (w.alloc o) T cs
  simpa using this
theorem BlkV.alloc {w : World} {g : Nat} {T : TypeId} {cs : List Value} (h : BlkV w g T cs) (o : Obj) : BlkV (w.alloc o) g T cs := h.fwd ((Fwd.refl w).alloc o)

set_option maxHeartbeats 4000000 in
theorem foresee_any (w : World) {X Y H xl yl a b : Nat} (hX : X = a * H + xl) (hY : Y = b * H + yl) (hx : xl < H) (hy : yl < H) (hab : b ≤ a) (ha : a < 18446744073709551616) :
    Calls Tryd.prog 58 #[.int .u64 a, .int .u64 b] w fun e w' => ∃ (u0 u1 v0 v1 : Nat) (odd : Bool), e = .returned (.agg #[.int .u64 u0, .int .u64 u1, .int .u64 v0, .int .u64 v1, .bool odd]) ∧ Fwd w w' ∧ (v0 = 0 ∨ Foreseen X Y odd u0 u1 v0 v1) := by
  have HS := hid (FS.start hX hY hab ha)
  have HXY := hid (And.intro hx hy)
  clear hX hY hx hy
  go_enter Tryd.func58, Tryd.ntmps58
  go_wp2
  go_loopw [0, 1, 6, 7] (fun va vb x y wr => ∃ (A B u0 u1 u2 v0 v1 v2 : Nat) (odd : Bool), va = .int .u64 A ∧ vb = .int .u64 B ∧ x = .int .u64 u2 ∧ y = .int .u64 v2 ∧
      BlkV wr (w.heap.size + 1) 66 [.int .u64 u0, .int .u64 u1, .int .u64 v0, .int .u64 v1, .bool odd] ∧ BlkV wr w.heap.size 66 [.int .u64 0, .int .u64 0, .int .u64 0, .int .u64 0, .bool false] ∧ Fwd w wr ∧
      FS X Y H xl yl (if odd then 1 else -1) A B u0 u1 u2 v0 v1 v2 ∧ A < 18446744073709551616 ∧ u2 < 18446744073709551616 ∧ v2 < 18446744073709551616) (fun _ b _ _ _ => (intOf b).toNat)
  case atStart =>
    exact ⟨a, b, 0, 1, 0, 0, 0, 1, true, rfl, rfl, rfl, rfl, BlkV.made2 w _ _ _, (BlkV.made w _ _).alloc _, ((Fwd.refl w).alloc _).alloc _, HS.out, ha, by omega, by omega⟩
  case round =>
    obtain ⟨A, B, u0, u1, u2, v0, v1, v2, odd, rfl, rfl, rfl, rfl, hb1, hb0, hfw, hS, hA, hu2, hv2⟩ := hrel
    have k0 := hb1.cell 0 rfl
    have k1 := hb1.cell 1 rfl
    have k2 := hb1.cell 2 rfl
    have k3 := hb1.cell 3 rfl
    have k4 := hb1.cell 4 rfl
    have z0 := hb0.cell 0 rfl
    have z1 := hb0.cell 1 rfl
    have z2 := hb0.cell 2 rfl
    have z3 := hb0.cell 3 rfl
    have z4 := hb0.cell 4 rfl
    have p0 := hb1.frozen 0
    have p1 := hb1.frozen 1
    have p2 := hb1.frozen 2
    have p3 := hb1.frozen 3
    have p4 := hb1.frozen 4
    have r0 := hb0.frozen 0
    have r1 := hb0.frozen 1
    have r2 := hb0.frozen 2
    have r3 := hb0.frozen 3
    have r4 := hb0.frozen 4
    have hAB := hS.ab
    have hv1 := hS.v1b
    have HSS := hid hS
    have HBB := hid (And.intro hb1 (And.intro hb0 hfw))
    have HDONE := hid hS.done
    have hA2 : (A : Int) ≤ 18446744073709551615 := by omega
    have hv22 : (v2 : Int) ≤ 18446744073709551615 := by omega
    have hu22 : (u2 : Int) ≤ 18446744073709551615 := by omega
    by_cases c1 : v2 ≤ B
    · have hvb := hS.vb c1
      by_cases c2 : v1 + v2 ≤ A - B
      · have c2' : (v1 : Int) + v2 ≤ (A : Int) - B := by omega
        have hv2p := hS.v2p
        have hB0 : 0 < B := by omega
        obtain ⟨g1, g2, g3, g4, g5, g6⟩ := hS.big hB0
        have HC := hid (And.intro c1 c2)
        have hmod := Nat.mod_lt A hB0
        have eq0 : (A : Int) / (B : Int) = ((A / B : Nat) : Int) := (Int.natCast_ediv _ _).symm
        have er0 : (A : Int) % (B : Int) = ((A % B : Nat) : Int) := (Int.natCast_emod _ _).symm
        have HST := hid (hS.step HXY.out.1 HXY.out.2 c1 c2)
        obtain ⟨q, hq⟩ : ∃ q, q = A / B := ⟨_, rfl⟩
        obtain ⟨r, hr⟩ : ∃ r, r = A % B := ⟨_, rfl⟩
        rw [← hq] at g2 g3 g4 g5 eq0 HST
        rw [← hr] at hmod er0 HST
        have b1 : (q : Int) * (u2 : Int) ≤ 18446744073709551615 := by rw [← Int.natCast_mul]; omega
        have b2 : (0 : Int) ≤ (q : Int) * (u2 : Int) := by rw [← Int.natCast_mul]; omega
        have b3 : (q : Int) * (v2 : Int) ≤ 18446744073709551615 := by rw [← Int.natCast_mul]; omega
        have b4 : (0 : Int) ≤ (q : Int) * (v2 : Int) := by rw [← Int.natCast_mul]; omega
        have b5 : (u1 : Int) + (q : Int) * (u2 : Int) ≤ 18446744073709551615 := by rw [← Int.natCast_mul]; omega
        have b6 : (v1 : Int) + (q : Int) * (v2 : Int) ≤ 18446744073709551615 := by rw [← Int.natCast_mul]; omega
        have hBne : ((B : Int) == 0) = false := by simp; omega
        have bq : (q : Int) ≤ 18446744073709551615 := by
          have := Nat.div_le_self A B
          omega
        have br : (r : Int) ≤ 18446744073709551615 := by omega
        have HG := hid (And.intro g2 g3)
        clear g1 g2 g3 g4 g5 g6 hq hr c2 hS hb1 hb0 hfw z0 z1 z2 z3 z4 r0 r1 r2 r3 r4
        go_wp2_with fail
        go_quiet (fail)
        have hb1 := HBB.out.1.drewN nq
        have hb0 := HBB.out.2.1.drewN nq
        have hfw := HBB.out.2.2.drewN nq
        clear k0 k1 k2 k3 k4 p0 p1 p2 p3 p4 HBB
        generalize wr.drewN nq = wq at *
        have k0 := hb1.cell 0 rfl
        have k1 := hb1.cell 1 rfl
        have k2 := hb1.cell 2 rfl
        have k3 := hb1.cell 3 rfl
        have k4 := hb1.cell 4 rfl
        have p0 := hb1.frozen 0
        have p1 := hb1.frozen 1
        have p2 := hb1.frozen 2
        have p3 := hb1.frozen 3
        have p4 := hb1.frozen 4
        have HBB := hid (And.intro hb1 (And.intro hb0 hfw))
        clear hb1 hb0 hfw
        go_wp2
        go_roundw
        case rel =>
          obtain ⟨hb1, hb0, hfw⟩ := HBB.out
          have hz := ((((hb1.set 0 (.int .u64 (u1 : Int))).set 1 (.int .u64 (u2 : Int))).set 2 (.int .u64 (v1 : Int))).set 3 (.int .u64 (v2 : Int))).set 4 (.bool (!odd))
          have hon : Only (w.heap.size + 1) wq (((((wq.setCell ⟨w.heap.size + 1, 0, none⟩ (.int .u64 (u1 : Int))).setCell ⟨w.heap.size + 1, 1, none⟩ (.int .u64 (u2 : Int))).setCell ⟨w.heap.size + 1, 2, none⟩ (.int .u64 (v1 : Int))).setCell ⟨w.heap.size + 1, 3, none⟩ (.int .u64 (v2 : Int))).setCell ⟨w.heap.size + 1, 4, none⟩ (.bool (!odd))) := ((((Only.set _ _ _ _).setv _ _).setv _ _).setv _ _).setv _ _
          have hsg : -(if odd then (1 : Int) else -1) = (if !odd then 1 else -1) := by cases odd <;> rfl
          have hS2 := HST.out
          rw [hsg] at hS2
          exact ⟨B, r, u1, u2, u1 + q * u2, v1, v2, v1 + q * v2, !odd, rfl, by rw [er0], by simp, by simp, hz, hb0.only hon (by omega), hfw.wrote hon (by omega), hS2, by omega, HG.out.2, HG.out.1⟩
        case measure =>
          rw [er0]; simp [intOf]; omega
      · have c2' : (A : Int) - B < (v1 : Int) + v2 := by omega
        clear hS hb1 hb0 hfw c2
        go_wp2_with fail
        have hz := ((((HBB.out.2.1.set 0 (.int .u64 (u0 : Int))).set 1 (.int .u64 (u1 : Int))).set 2 (.int .u64 (v0 : Int))).set 3 (.int .u64 (v1 : Int))).set 4 (.bool odd)
        have hon : Only w.heap.size wr (((((wr.setCell ⟨w.heap.size, 0, none⟩ (.int .u64 (u0 : Int))).setCell ⟨w.heap.size, 1, none⟩ (.int .u64 (u1 : Int))).setCell ⟨w.heap.size, 2, none⟩ (.int .u64 (v0 : Int))).setCell ⟨w.heap.size, 3, none⟩ (.int .u64 (v1 : Int))).setCell ⟨w.heap.size, 4, none⟩ (.bool odd)) := ((((Only.set _ _ _ _).setv _ _).setv _ _).setv _ _).setv _ _
        generalize ((((wr.setCell ⟨w.heap.size, 0, none⟩ (.int .u64 (u0 : Int))).setCell ⟨w.heap.size, 1, none⟩ (.int .u64 (u1 : Int))).setCell ⟨w.heap.size, 2, none⟩ (.int .u64 (v0 : Int))).setCell ⟨w.heap.size, 3, none⟩ (.int .u64 (v1 : Int))).setCell ⟨w.heap.size, 4, none⟩ (.bool odd) = wz at hz hon ⊢
        have e0 := hz.cell 0 rfl
        have e1 := hz.cell 1 rfl
        have e2 := hz.cell 2 rfl
        have e3 := hz.cell 3 rfl
        have e4 := hz.cell 4 rfl
        refine bodyPost_ret (by simp [results, Tryd.results58, go_sem, e0, e1, e2, e3, e4]; try rfl) rfl ?_
        exact ⟨u0, u1, v0, v1, odd, rfl, HBB.out.2.2.wrote hon (Nat.le_refl _), HDONE.out⟩
    · have c1' : (B : Int) < v2 := by omega
      clear hS hb1 hb0 hfw c1
      go_wp2_with fail
      have hz := ((((HBB.out.2.1.set 0 (.int .u64 (u0 : Int))).set 1 (.int .u64 (u1 : Int))).set 2 (.int .u64 (v0 : Int))).set 3 (.int .u64 (v1 : Int))).set 4 (.bool odd)
      have hon : Only w.heap.size wr (((((wr.setCell ⟨w.heap.size, 0, none⟩ (.int .u64 (u0 : Int))).setCell ⟨w.heap.size, 1, none⟩ (.int .u64 (u1 : Int))).setCell ⟨w.heap.size, 2, none⟩ (.int .u64 (v0 : Int))).setCell ⟨w.heap.size, 3, none⟩ (.int .u64 (v1 : Int))).setCell ⟨w.heap.size, 4, none⟩ (.bool odd)) := ((((Only.set _ _ _ _).setv _ _).setv _ _).setv _ _).setv _ _
      generalize ((((wr.setCell ⟨w.heap.size, 0, none⟩ (.int .u64 (u0 : Int))).setCell ⟨w.heap.size, 1, none⟩ (.int .u64 (u1 : Int))).setCell ⟨w.heap.size, 2, none⟩ (.int .u64 (v0 : Int))).setCell ⟨w.heap.size, 3, none⟩ (.int .u64 (v1 : Int))).setCell ⟨w.heap.size, 4, none⟩ (.bool odd) = wz at hz hon ⊢
      have e0 := hz.cell 0 rfl
      have e1 := hz.cell 1 rfl
      have e2 := hz.cell 2 rfl
      have e3 := hz.cell 3 rfl
      have e4 := hz.cell 4 rfl
      refine bodyPost_ret (by simp [results, Tryd.results58, go_sem, e0, e1, e2, e3, e4]; try rfl) rfl ?_
      exact ⟨u0, u1, v0, v1, odd, rfl, HBB.out.2.2.wrote hon (Nat.le_refl _), HDONE.out⟩

end Go.Proofs.YtbkphjmhmfgpgabDoor
