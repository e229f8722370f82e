/- The program's rational numbers: Parse. -/
import Derived.Test.YtjkoiocemolcbaaDoorXT8
import Derived.Test.YtjkoiocemolcbaaDoorXP5
namespace Go.Proofs.YtjkoiocemolcbaaDoor
open Go.RowKit
set_option linter.unusedVariables false

/-- What is read behind the sign; above, below the stroke. -/
def restOf (s : ByteArray) : ByteArray := if hasMinus s then s.extract 1 s.size else s
def strokes (t : ByteArray) : Nat := Lib.countByte t.data.toList 47
def aboveOf (t : ByteArray) : ByteArray := if cutAt t < 0 then t else t.extract 0 (cutAt t).toNat
def belowOf (t : ByteArray) : ByteArray := if cutAt t < 0 then ⟨#[49]⟩ else t.extract ((cutAt t).toNat + 1) t.size
/-- The error, and the number. -/
def parseQE (s : ByteArray) : Int :=
  if 1 < strokes (restOf s) then 4 else if parseE (bytesOf (aboveOf (restOf s))) ≠ 0 then parseE (bytesOf (aboveOf (restOf s))) else
    if parseE (bytesOf (belowOf (restOf s))) ≠ 0 then parseE (bytesOf (belowOf (restOf s))) else if parseV (bytesOf (belowOf (restOf s))) = 0 then 5 else 0
def parseQV (s : ByteArray) : Rat := mkQ (hasMinus s) (parseV (bytesOf (aboveOf (restOf s)))) (parseV (bytesOf (belowOf (restOf s))))
theorem size_rest (s : ByteArray) : (restOf s).size ≤ s.size := by
  unfold restOf
  split
  · rw [ByteArray.size_extract]; omega
  · omega
theorem size_above (s : ByteArray) : (aboveOf s).size ≤ s.size := by
  unfold aboveOf
  split
  · omega
  · rw [ByteArray.size_extract]; omega
theorem size_below (s : ByteArray) : (belowOf s).size ≤ s.size + 1 := by
  unfold belowOf
  split
  · show 1 ≤ _; omega
  · rw [ByteArray.size_extract]; omega
theorem parseE_cases (L : List Nat) : parseE L = 0 ∨ parseE L = 3 ∨ parseE L = 4 := by
  unfold parseE
  split
  · simp
  · split <;> simp
/-- What Parse leaves. -/
def ParsedQ (w : World) (v : Value) (s : ByteArray) : Prop := (parseQE s = 0 → RV w v (parseQV s)) ∧ (parseQE s ≠ 0 → RW w v false 0 0)
theorem ParsedQ.fwd {w w' : World} {v : Value} {s : ByteArray} (h : ParsedQ w v s) (k : Fwd w w') : ParsedQ w' v s := ⟨fun e => (h.1 e).fwd k, fun e => (h.2 e).fwd k⟩

theorem cutPrefix_one (s : ByteArray) (w : World) (hs : s.size ≤ 1000000) :
    Calls Tryd.prog 52 #[.string s, .string ⟨#[45]⟩] w fun e w' => e = .returned (.tuple #[.string (restOf s), .bool (hasMinus s)]) ∧ w = w' := by
  refine (cutPrefix_any s w hs).mono ?_
  rintro e w' ⟨hw, ⟨h, rfl⟩ | ⟨h, rfl⟩⟩
  · exact ⟨by rw [h, restOf, h]; rfl, hw⟩
  · exact ⟨by rw [h, restOf, h]; rfl, hw⟩

set_option maxHeartbeats 4000000 in
set_option maxRecDepth 20000 in
theorem rparse_any (w : World) (s : ByteArray) (hs : s.size ≤ 999990) :
    Calls Tryd.prog 19 #[.string s] w fun e w' => ∃ v, e = .returned (.tuple #[v, .int .i64 (parseQE s)]) ∧ ParsedQ w' v s ∧ Fwd w w' := by
  have z1 := size_rest s
  have z2 := size_above (restOf s)
  have z3 := size_below (restOf s)
  have HQ : Hid (parseQE s = if 1 < strokes (restOf s) then 4 else if parseE (bytesOf (aboveOf (restOf s))) ≠ 0 then parseE (bytesOf (aboveOf (restOf s))) else if parseE (bytesOf (belowOf (restOf s))) ≠ 0 then parseE (bytesOf (belowOf (restOf s))) else if parseV (bytesOf (belowOf (restOf s))) = 0 then 5 else 0) := hid rfl
  have HV : Hid (parseQV s = mkQ (hasMinus s) (parseV (bytesOf (aboveOf (restOf s)))) (parseV (bytesOf (belowOf (restOf s))))) := hid rfl
  have HCP := hid (fun w => cutPrefix_one s w (by omega))
  have HCU := hid (fun w => cut_any (restOf s) w (by omega))
  have HCO := hid (fun w => countSlash_any (restOf s) w)
  have HAB : Hid (aboveOf (restOf s) = if cutAt (restOf s) < 0 then restOf s else (restOf s).extract 0 (cutAt (restOf s)).toNat) := hid rfl
  have HBE : Hid (belowOf (restOf s) = if cutAt (restOf s) < 0 then ⟨#[49]⟩ else (restOf s).extract ((cutAt (restOf s)).toNat + 1) (restOf s).size) := hid rfl
  have HPA := hid (fun w => parse_each w (aboveOf (restOf s)) (by omega))
  have HPB := hid (fun w => parse_each w (belowOf (restOf s)) (by omega))
  have bA := nl_parseV (bytesOf (aboveOf (restOf s)))
  have bB := nl_parseV (bytesOf (belowOf (restOf s)))
  have cA := parseE_cases (bytesOf (aboveOf (restOf s)))
  have cB := parseE_cases (bytesOf (belowOf (restOf s)))
  have hcnt : Lib.countByte (restOf s).data.toList 47 = strokes (restOf s) := rfl
  rw [hcnt] at HCO
  clear hcnt
  generalize hasMinus s = neg at HCP HV
  generalize strokes (restOf s) = K at HCO HQ
  generalize parseE (bytesOf (aboveOf (restOf s))) = eA at HQ HPA cA
  generalize parseE (bytesOf (belowOf (restOf s))) = eB at HQ HPB cB
  generalize parseV (bytesOf (aboveOf (restOf s))) = A at HPA HV bA
  generalize parseV (bytesOf (belowOf (restOf s))) = B at HPB HQ HV bB
  generalize aboveOf (restOf s) = sA at HAB HPA z2
  generalize belowOf (restOf s) = sB at HBE HPB z3
  generalize cutAt (restOf s) = k at HAB HBE HCU
  generalize restOf s = t at *
  by_cases hK : 1 < K
  · have hKi : (1 : Int) < (K : Int) := by omega
    have HE : Hid (parseQE s = 4) := hid (by rw [HQ.out, if_pos hK])
    have HNE : Hid ((4 : Int) ≠ 0) := hid (by decide)
    have kR : BlkV (w.alloc (.cells #[.bool false, .slice none 0 0, .slice none 0 0] 24)) (w.heap.size) 24 [.bool false, .slice none 0 0, .slice none 0 0] := BlkV.made' w (w.heap.size) (by simp) 24 [.bool false, .slice none 0 0, .slice none 0 0]
    have hF : Fwd w (w.alloc (.cells #[.bool false, .slice none 0 0, .slice none 0 0] 24)) := (Fwd.refl w).alloc _
    go_enter Tryd.func19, Tryd.ntmps19
    have rc0 := BlkV.cell kR 0 rfl
    have rz0 := BlkV.frozen kR 0
    have rc1 := BlkV.cell kR 1 rfl
    have rz1 := BlkV.frozen kR 1
    have rc2 := BlkV.cell kR 2 rfl
    have rz2 := BlkV.frozen kR 2
    go_wp2_with fail
    refine (HCP.out _).mono ?_
    rintro e wq ⟨rfl, rfl⟩
    go_wp2_with fail
    refine (HCO.out _).mono ?_
    rintro e wq ⟨rfl, rfl⟩
    go_wp2_with (with_reducible refine stop_here ?_)
    refine ⟨?_⟩
    refine bodyPost_ret (by simp [results, Tryd.results19, go_sem]; try rfl) rfl ?_
    exact ⟨_, by rw [HE.out]; rfl, ⟨fun h => absurd (HE.out.symm.trans h) HNE.out, fun _ => ratZero_rw _⟩, hF⟩
  · have hKi : ¬ (1 : Int) < (K : Int) := by omega
    have HQ2 := hid (HQ.out.trans (if_neg hK))
    clear hK HQ
    by_cases hk : k < 0
    · have HA2 := hid (HAB.out.trans (if_pos hk))
      have HB2 := hid (HBE.out.trans (if_pos hk))
      have HK := hid hk
      clear hk HAB HBE
      have kR : BlkV (w.alloc (.cells #[.bool false, .slice none 0 0, .slice none 0 0] 24)) (w.heap.size) 24 [.bool false, .slice none 0 0, .slice none 0 0] := BlkV.made' w (w.heap.size) (by simp) 24 [.bool false, .slice none 0 0, .slice none 0 0]
      have hF : Fwd w (w.alloc (.cells #[.bool false, .slice none 0 0, .slice none 0 0] 24)) := (Fwd.refl w).alloc _
      go_enter Tryd.func19, Tryd.ntmps19
      have rc0 := BlkV.cell kR 0 rfl
      have rz0 := BlkV.frozen kR 0
      have rc1 := BlkV.cell kR 1 rfl
      have rz1 := BlkV.frozen kR 1
      have rc2 := BlkV.cell kR 2 rfl
      have rz2 := BlkV.frozen kR 2
      go_wp2_with fail
      refine (HCP.out _).mono ?_
      rintro e wq ⟨rfl, rfl⟩
      go_wp2_with fail
      refine (HCO.out _).mono ?_
      rintro e wq ⟨rfl, rfl⟩
      go_wp2_with fail
      refine (HCU.out _).mono ?_
      rintro e w1 ⟨hf1, ⟨hq, rfl⟩ | ⟨hq, rfl⟩⟩
      · clear hq
        replace kR := kR.fwd hf1
        replace hF := hF.trans hf1
        clear hf1
        clear rc0 rz0 rc1 rz1 rc2 rz2
        have rc0 := BlkV.cell kR 0 rfl
        have rz0 := BlkV.frozen kR 0
        have rc1 := BlkV.cell kR 1 rfl
        have rz1 := BlkV.frozen kR 1
        have rc2 := BlkV.cell kR 2 rfl
        have rz2 := BlkV.frozen kR 2
        rw [← HA2.out]
        go_wp2_with fail
        refine (HPA.out _).mono ?_
        rintro e w2 ⟨vA, rfl, fA, hf2⟩
        replace kR := kR.fwd hf2
        replace hF := hF.trans hf2
        clear hf2
        clear rc0 rz0 rc1 rz1 rc2 rz2
        have rc0 := BlkV.cell kR 0 rfl
        have rz0 := BlkV.frozen kR 0
        have rc1 := BlkV.cell kR 1 rfl
        have rz1 := BlkV.frozen kR 1
        have rc2 := BlkV.cell kR 2 rfl
        have rz2 := BlkV.frozen kR 2
        by_cases hA : eA = 0
        · subst hA
          have HQ3 := hid (HQ2.out.trans (if_neg (by simp)))
          go_wp2_with fail
          rw [← HB2.out]
          refine (HPB.out _).mono ?_
          rintro e w3 ⟨vB, rfl, fB, hf3⟩
          replace fA := fA.fwd hf3
          replace kR := kR.fwd hf3
          replace hF := hF.trans hf3
          clear hf3
          clear rc0 rz0 rc1 rz1 rc2 rz2
          have rc0 := BlkV.cell kR 0 rfl
          have rz0 := BlkV.frozen kR 0
          have rc1 := BlkV.cell kR 1 rfl
          have rz1 := BlkV.frozen kR 1
          have rc2 := BlkV.cell kR 2 rfl
          have rz2 := BlkV.frozen kR 2
          by_cases hB : eB = 0
          · subst hB
            have HQ4 := hid (HQ3.out.trans (if_neg (by simp)))
            by_cases hB0 : B = 0
            · subst hB0
              have HE : Hid (parseQE s = 5) := hid (HQ4.out.trans (if_pos rfl))
              have HNE : Hid ((5 : Int) ≠ 0) := hid (by decide)
              go_wp2_with fail
              refine (rmake_zero neg fA fB).mono ?_
              rintro e w4 ⟨rfl, hf4⟩
              replace fA := fA.fwd hf4
              replace fB := fB.fwd hf4
              replace kR := kR.fwd hf4
              replace hF := hF.trans hf4
              clear hf4
              clear rc0 rz0 rc1 rz1 rc2 rz2
              have rc0 := BlkV.cell kR 0 rfl
              have rz0 := BlkV.frozen kR 0
              have rc1 := BlkV.cell kR 1 rfl
              have rz1 := BlkV.frozen kR 1
              have rc2 := BlkV.cell kR 2 rfl
              have rz2 := BlkV.frozen kR 2
              unfold ratZero
              go_wp2_with (with_reducible refine stop_here ?_)
              refine ⟨?_⟩
              have hz : BlkV (((w4.setCell ⟨w.heap.size, 0, none⟩ (.bool false)).setCell ⟨w.heap.size, 1, none⟩ (.slice none 0 0)).setCell ⟨w.heap.size, 2, none⟩ (.slice none 0 0)) (w.heap.size) 24 [.bool false, .slice none 0 0, .slice none 0 0] := ((BlkV.set kR 0 (.bool false)).set 1 (.slice none 0 0)).set 2 (.slice none 0 0)
              have hon : Only (w.heap.size) w4 (((w4.setCell ⟨w.heap.size, 0, none⟩ (.bool false)).setCell ⟨w.heap.size, 1, none⟩ (.slice none 0 0)).setCell ⟨w.heap.size, 2, none⟩ (.slice none 0 0)) := ((Only.set (w.heap.size) w4 0 (.bool false)).setv 1 (.slice none 0 0)).setv 2 (.slice none 0 0)
              replace fA := fA.keepV kR (by simp) hon
              replace fB := fB.keepV kR (by simp) hon
              replace hF := hF.wrote hon (by omega)
              clear kR
              have kR := hz
              clear hz hon
              generalize (((w4.setCell ⟨w.heap.size, 0, none⟩ (.bool false)).setCell ⟨w.heap.size, 1, none⟩ (.slice none 0 0)).setCell ⟨w.heap.size, 2, none⟩ (.slice none 0 0)) = w5 at fA fB kR hF ⊢
              clear rc0 rz0 rc1 rz1 rc2 rz2
              have rc0 := BlkV.cell kR 0 rfl
              have rz0 := BlkV.frozen kR 0
              have rc1 := BlkV.cell kR 1 rfl
              have rz1 := BlkV.frozen kR 1
              have rc2 := BlkV.cell kR 2 rfl
              have rz2 := BlkV.frozen kR 2
              refine bodyPost_ret (by simp [results, Tryd.results19, go_sem, rc0, rc1, rc2]; try rfl) rfl ?_
              exact ⟨_, by rw [HE.out]; rfl, ⟨fun h => absurd (HE.out.symm.trans h) HNE.out, fun _ => ratZero_rw _⟩, hF⟩
            · have HE : Hid (parseQE s = 0) := hid (HQ4.out.trans (if_neg hB0))
              have HB0 := hid hB0
              clear hB0
              go_wp2_with fail
              refine (rmake_any neg fA fB (by omega) (by omega) HB0.out).mono ?_
              rintro e w4 ⟨v, rfl, hv, hf4⟩
              replace fA := fA.fwd hf4
              replace fB := fB.fwd hf4
              replace kR := kR.fwd hf4
              replace hF := hF.trans hf4
              clear hf4
              clear rc0 rz0 rc1 rz1 rc2 rz2
              have rc0 := BlkV.cell kR 0 rfl
              have rz0 := BlkV.frozen kR 0
              have rc1 := BlkV.cell kR 1 rfl
              have rz1 := BlkV.frozen kR 1
              have rc2 := BlkV.cell kR 2 rfl
              have rz2 := BlkV.frozen kR 2
              rw [← HV.out] at hv
              have HVV := hid hv.rw'
              obtain ⟨xo, xc, yo, yc, rfl, x1, x2, x3, x4, -, -⟩ := RW.open hv.rw'
              clear hv
              have hv := HVV.out
              clear HVV
              generalize hqq : parseQV s = q at hv x1 x2 x3 x4 ⊢
              have HQQ := hid hqq
              clear hqq
              clear fA fB
              go_wp2_with (with_reducible refine stop_here ?_)
              refine ⟨?_⟩
              have hz : BlkV (((w4.setCell ⟨w.heap.size, 0, none⟩ (.bool (negQ q))).setCell ⟨w.heap.size, 1, none⟩ (.slice xo (nl q.num.natAbs) xc)).setCell ⟨w.heap.size, 2, none⟩ (.slice yo (nl q.den) yc)) (w.heap.size) 24 [.bool (negQ q), .slice xo (nl q.num.natAbs) xc, .slice yo (nl q.den) yc] := ((BlkV.set kR 0 (.bool (negQ q))).set 1 (.slice xo (nl q.num.natAbs) xc)).set 2 (.slice yo (nl q.den) yc)
              have hon : Only (w.heap.size) w4 (((w4.setCell ⟨w.heap.size, 0, none⟩ (.bool (negQ q))).setCell ⟨w.heap.size, 1, none⟩ (.slice xo (nl q.num.natAbs) xc)).setCell ⟨w.heap.size, 2, none⟩ (.slice yo (nl q.den) yc)) := ((Only.set (w.heap.size) w4 0 (.bool (negQ q))).setv 1 (.slice xo (nl q.num.natAbs) xc)).setv 2 (.slice yo (nl q.den) yc)
              replace hv := hv.keepV kR (by simp) hon
              replace hF := hF.wrote hon (by omega)
              clear kR
              have kR := hz
              clear hz hon
              generalize (((w4.setCell ⟨w.heap.size, 0, none⟩ (.bool (negQ q))).setCell ⟨w.heap.size, 1, none⟩ (.slice xo (nl q.num.natAbs) xc)).setCell ⟨w.heap.size, 2, none⟩ (.slice yo (nl q.den) yc)) = w5 at hv kR hF ⊢
              clear rc0 rz0 rc1 rz1 rc2 rz2
              have rc0 := BlkV.cell kR 0 rfl
              have rz0 := BlkV.frozen kR 0
              have rc1 := BlkV.cell kR 1 rfl
              have rz1 := BlkV.frozen kR 1
              have rc2 := BlkV.cell kR 2 rfl
              have rz2 := BlkV.frozen kR 2
              refine bodyPost_ret (by simp [results, Tryd.results19, go_sem, rc0, rc1, rc2]; try rfl) rfl ?_
              exact ⟨_, by rw [HE.out], ⟨fun _ => by rw [HQQ.out]; exact hv, fun h => absurd HE.out h⟩, hF⟩
          · have HE : Hid (parseQE s = eB) := hid (HQ3.out.trans (if_pos hB))
            have HNE := hid hB
            have hBb : (eB == 0) = false := by simpa using hB
            clear hB
            have hb1 : -1000 ≤ eB ∧ eB ≤ 1000 := by omega
            obtain ⟨hb2, hb3⟩ := hb1
            clear cA cB
            go_wp2_with (with_reducible refine stop_here ?_)
            refine ⟨?_⟩
            have hz : BlkV (((w3.setCell ⟨w.heap.size, 0, none⟩ (.bool false)).setCell ⟨w.heap.size, 1, none⟩ (.slice none 0 0)).setCell ⟨w.heap.size, 2, none⟩ (.slice none 0 0)) (w.heap.size) 24 [.bool false, .slice none 0 0, .slice none 0 0] := ((BlkV.set kR 0 (.bool false)).set 1 (.slice none 0 0)).set 2 (.slice none 0 0)
            have hon : Only (w.heap.size) w3 (((w3.setCell ⟨w.heap.size, 0, none⟩ (.bool false)).setCell ⟨w.heap.size, 1, none⟩ (.slice none 0 0)).setCell ⟨w.heap.size, 2, none⟩ (.slice none 0 0)) := ((Only.set (w.heap.size) w3 0 (.bool false)).setv 1 (.slice none 0 0)).setv 2 (.slice none 0 0)
            replace fA := fA.keepV kR (by simp) hon
            replace fB := fB.keepV kR (by simp) hon
            replace hF := hF.wrote hon (by omega)
            clear kR
            have kR := hz
            clear hz hon
            generalize (((w3.setCell ⟨w.heap.size, 0, none⟩ (.bool false)).setCell ⟨w.heap.size, 1, none⟩ (.slice none 0 0)).setCell ⟨w.heap.size, 2, none⟩ (.slice none 0 0)) = w4 at fA fB kR hF ⊢
            clear rc0 rz0 rc1 rz1 rc2 rz2
            have rc0 := BlkV.cell kR 0 rfl
            have rz0 := BlkV.frozen kR 0
            have rc1 := BlkV.cell kR 1 rfl
            have rz1 := BlkV.frozen kR 1
            have rc2 := BlkV.cell kR 2 rfl
            have rz2 := BlkV.frozen kR 2
            refine bodyPost_ret (by simp [results, Tryd.results19, go_sem, rc0, rc1, rc2]; try rfl) rfl ?_
            exact ⟨_, by rw [HE.out]; rfl, ⟨fun h => absurd (HE.out.symm.trans h) HNE.out, fun _ => ratZero_rw _⟩, hF⟩
        · have HE : Hid (parseQE s = eA) := hid (HQ2.out.trans (if_pos hA))
          have HNE := hid hA
          have hAb : (eA == 0) = false := by simpa using hA
          clear hA
          have hb1 : -1000 ≤ eA ∧ eA ≤ 1000 := by omega
          obtain ⟨hb2, hb3⟩ := hb1
          clear cA cB
          go_wp2_with (with_reducible refine stop_here ?_)
          refine ⟨?_⟩
          have hz : BlkV (((w2.setCell ⟨w.heap.size, 0, none⟩ (.bool false)).setCell ⟨w.heap.size, 1, none⟩ (.slice none 0 0)).setCell ⟨w.heap.size, 2, none⟩ (.slice none 0 0)) (w.heap.size) 24 [.bool false, .slice none 0 0, .slice none 0 0] := ((BlkV.set kR 0 (.bool false)).set 1 (.slice none 0 0)).set 2 (.slice none 0 0)
          have hon : Only (w.heap.size) w2 (((w2.setCell ⟨w.heap.size, 0, none⟩ (.bool false)).setCell ⟨w.heap.size, 1, none⟩ (.slice none 0 0)).setCell ⟨w.heap.size, 2, none⟩ (.slice none 0 0)) := ((Only.set (w.heap.size) w2 0 (.bool false)).setv 1 (.slice none 0 0)).setv 2 (.slice none 0 0)
          replace fA := fA.keepV kR (by simp) hon
          replace hF := hF.wrote hon (by omega)
          clear kR
          have kR := hz
          clear hz hon
          generalize (((w2.setCell ⟨w.heap.size, 0, none⟩ (.bool false)).setCell ⟨w.heap.size, 1, none⟩ (.slice none 0 0)).setCell ⟨w.heap.size, 2, none⟩ (.slice none 0 0)) = w3 at fA kR hF ⊢
          clear rc0 rz0 rc1 rz1 rc2 rz2
          have rc0 := BlkV.cell kR 0 rfl
          have rz0 := BlkV.frozen kR 0
          have rc1 := BlkV.cell kR 1 rfl
          have rz1 := BlkV.frozen kR 1
          have rc2 := BlkV.cell kR 2 rfl
          have rz2 := BlkV.frozen kR 2
          refine bodyPost_ret (by simp [results, Tryd.results19, go_sem, rc0, rc1, rc2]; try rfl) rfl ?_
          exact ⟨_, by rw [HE.out]; rfl, ⟨fun h => absurd (HE.out.symm.trans h) HNE.out, fun _ => ratZero_rw _⟩, hF⟩
      · exfalso
        have := HK.out
        omega
    · have HA2 := hid (HAB.out.trans (if_neg hk))
      have HB2 := hid (HBE.out.trans (if_neg hk))
      have HK := hid hk
      clear hk HAB HBE
      have kR : BlkV (w.alloc (.cells #[.bool false, .slice none 0 0, .slice none 0 0] 24)) (w.heap.size) 24 [.bool false, .slice none 0 0, .slice none 0 0] := BlkV.made' w (w.heap.size) (by simp) 24 [.bool false, .slice none 0 0, .slice none 0 0]
      have hF : Fwd w (w.alloc (.cells #[.bool false, .slice none 0 0, .slice none 0 0] 24)) := (Fwd.refl w).alloc _
      go_enter Tryd.func19, Tryd.ntmps19
      have rc0 := BlkV.cell kR 0 rfl
      have rz0 := BlkV.frozen kR 0
      have rc1 := BlkV.cell kR 1 rfl
      have rz1 := BlkV.frozen kR 1
      have rc2 := BlkV.cell kR 2 rfl
      have rz2 := BlkV.frozen kR 2
      go_wp2_with fail
      refine (HCP.out _).mono ?_
      rintro e wq ⟨rfl, rfl⟩
      go_wp2_with fail
      refine (HCO.out _).mono ?_
      rintro e wq ⟨rfl, rfl⟩
      go_wp2_with fail
      refine (HCU.out _).mono ?_
      rintro e w1 ⟨hf1, ⟨hq, rfl⟩ | ⟨hq, rfl⟩⟩
      · exfalso
        have := HK.out
        omega
      · clear hq
        replace kR := kR.fwd hf1
        replace hF := hF.trans hf1
        clear hf1
        clear rc0 rz0 rc1 rz1 rc2 rz2
        have rc0 := BlkV.cell kR 0 rfl
        have rz0 := BlkV.frozen kR 0
        have rc1 := BlkV.cell kR 1 rfl
        have rz1 := BlkV.frozen kR 1
        have rc2 := BlkV.cell kR 2 rfl
        have rz2 := BlkV.frozen kR 2
        rw [← HA2.out, ← HB2.out]
        go_wp2_with fail
        refine (HPA.out _).mono ?_
        rintro e w2 ⟨vA, rfl, fA, hf2⟩
        replace kR := kR.fwd hf2
        replace hF := hF.trans hf2
        clear hf2
        clear rc0 rz0 rc1 rz1 rc2 rz2
        have rc0 := BlkV.cell kR 0 rfl
        have rz0 := BlkV.frozen kR 0
        have rc1 := BlkV.cell kR 1 rfl
        have rz1 := BlkV.frozen kR 1
        have rc2 := BlkV.cell kR 2 rfl
        have rz2 := BlkV.frozen kR 2
        by_cases hA : eA = 0
        · subst hA
          have HQ3 := hid (HQ2.out.trans (if_neg (by simp)))
          go_wp2_with fail
          refine (HPB.out _).mono ?_
          rintro e w3 ⟨vB, rfl, fB, hf3⟩
          replace fA := fA.fwd hf3
          replace kR := kR.fwd hf3
          replace hF := hF.trans hf3
          clear hf3
          clear rc0 rz0 rc1 rz1 rc2 rz2
          have rc0 := BlkV.cell kR 0 rfl
          have rz0 := BlkV.frozen kR 0
          have rc1 := BlkV.cell kR 1 rfl
          have rz1 := BlkV.frozen kR 1
          have rc2 := BlkV.cell kR 2 rfl
          have rz2 := BlkV.frozen kR 2
          by_cases hB : eB = 0
          · subst hB
            have HQ4 := hid (HQ3.out.trans (if_neg (by simp)))
            by_cases hB0 : B = 0
            · subst hB0
              have HE : Hid (parseQE s = 5) := hid (HQ4.out.trans (if_pos rfl))
              have HNE : Hid ((5 : Int) ≠ 0) := hid (by decide)
              go_wp2_with fail
              refine (rmake_zero neg fA fB).mono ?_
              rintro e w4 ⟨rfl, hf4⟩
              replace fA := fA.fwd hf4
              replace fB := fB.fwd hf4
              replace kR := kR.fwd hf4
              replace hF := hF.trans hf4
              clear hf4
              clear rc0 rz0 rc1 rz1 rc2 rz2
              have rc0 := BlkV.cell kR 0 rfl
              have rz0 := BlkV.frozen kR 0
              have rc1 := BlkV.cell kR 1 rfl
              have rz1 := BlkV.frozen kR 1
              have rc2 := BlkV.cell kR 2 rfl
              have rz2 := BlkV.frozen kR 2
              unfold ratZero
              go_wp2_with (with_reducible refine stop_here ?_)
              refine ⟨?_⟩
              have hz : BlkV (((w4.setCell ⟨w.heap.size, 0, none⟩ (.bool false)).setCell ⟨w.heap.size, 1, none⟩ (.slice none 0 0)).setCell ⟨w.heap.size, 2, none⟩ (.slice none 0 0)) (w.heap.size) 24 [.bool false, .slice none 0 0, .slice none 0 0] := ((BlkV.set kR 0 (.bool false)).set 1 (.slice none 0 0)).set 2 (.slice none 0 0)
              have hon : Only (w.heap.size) w4 (((w4.setCell ⟨w.heap.size, 0, none⟩ (.bool false)).setCell ⟨w.heap.size, 1, none⟩ (.slice none 0 0)).setCell ⟨w.heap.size, 2, none⟩ (.slice none 0 0)) := ((Only.set (w.heap.size) w4 0 (.bool false)).setv 1 (.slice none 0 0)).setv 2 (.slice none 0 0)
              replace fA := fA.keepV kR (by simp) hon
              replace fB := fB.keepV kR (by simp) hon
              replace hF := hF.wrote hon (by omega)
              clear kR
              have kR := hz
              clear hz hon
              generalize (((w4.setCell ⟨w.heap.size, 0, none⟩ (.bool false)).setCell ⟨w.heap.size, 1, none⟩ (.slice none 0 0)).setCell ⟨w.heap.size, 2, none⟩ (.slice none 0 0)) = w5 at fA fB kR hF ⊢
              clear rc0 rz0 rc1 rz1 rc2 rz2
              have rc0 := BlkV.cell kR 0 rfl
              have rz0 := BlkV.frozen kR 0
              have rc1 := BlkV.cell kR 1 rfl
              have rz1 := BlkV.frozen kR 1
              have rc2 := BlkV.cell kR 2 rfl
              have rz2 := BlkV.frozen kR 2
              refine bodyPost_ret (by simp [results, Tryd.results19, go_sem, rc0, rc1, rc2]; try rfl) rfl ?_
              exact ⟨_, by rw [HE.out]; rfl, ⟨fun h => absurd (HE.out.symm.trans h) HNE.out, fun _ => ratZero_rw _⟩, hF⟩
            · have HE : Hid (parseQE s = 0) := hid (HQ4.out.trans (if_neg hB0))
              have HB0 := hid hB0
              clear hB0
              go_wp2_with fail
              refine (rmake_any neg fA fB (by omega) (by omega) HB0.out).mono ?_
              rintro e w4 ⟨v, rfl, hv, hf4⟩
              replace fA := fA.fwd hf4
              replace fB := fB.fwd hf4
              replace kR := kR.fwd hf4
              replace hF := hF.trans hf4
              clear hf4
              clear rc0 rz0 rc1 rz1 rc2 rz2
              have rc0 := BlkV.cell kR 0 rfl
              have rz0 := BlkV.frozen kR 0
              have rc1 := BlkV.cell kR 1 rfl
              have rz1 := BlkV.frozen kR 1
              have rc2 := BlkV.cell kR 2 rfl
              have rz2 := BlkV.frozen kR 2
              rw [← HV.out] at hv
              have HVV := hid hv.rw'
              obtain ⟨xo, xc, yo, yc, rfl, x1, x2, x3, x4, -, -⟩ := RW.open hv.rw'
              clear hv
              have hv := HVV.out
              clear HVV
              generalize hqq : parseQV s = q at hv x1 x2 x3 x4 ⊢
              have HQQ := hid hqq
              clear hqq
              clear fA fB
              go_wp2_with (with_reducible refine stop_here ?_)
              refine ⟨?_⟩
              have hz : BlkV (((w4.setCell ⟨w.heap.size, 0, none⟩ (.bool (negQ q))).setCell ⟨w.heap.size, 1, none⟩ (.slice xo (nl q.num.natAbs) xc)).setCell ⟨w.heap.size, 2, none⟩ (.slice yo (nl q.den) yc)) (w.heap.size) 24 [.bool (negQ q), .slice xo (nl q.num.natAbs) xc, .slice yo (nl q.den) yc] := ((BlkV.set kR 0 (.bool (negQ q))).set 1 (.slice xo (nl q.num.natAbs) xc)).set 2 (.slice yo (nl q.den) yc)
              have hon : Only (w.heap.size) w4 (((w4.setCell ⟨w.heap.size, 0, none⟩ (.bool (negQ q))).setCell ⟨w.heap.size, 1, none⟩ (.slice xo (nl q.num.natAbs) xc)).setCell ⟨w.heap.size, 2, none⟩ (.slice yo (nl q.den) yc)) := ((Only.set (w.heap.size) w4 0 (.bool (negQ q))).setv 1 (.slice xo (nl q.num.natAbs) xc)).setv 2 (.slice yo (nl q.den) yc)
              replace hv := hv.keepV kR (by simp) hon
              replace hF := hF.wrote hon (by omega)
              clear kR
              have kR := hz
              clear hz hon
              generalize (((w4.setCell ⟨w.heap.size, 0, none⟩ (.bool (negQ q))).setCell ⟨w.heap.size, 1, none⟩ (.slice xo (nl q.num.natAbs) xc)).setCell ⟨w.heap.size, 2, none⟩ (.slice yo (nl q.den) yc)) = w5 at hv kR hF ⊢
              clear rc0 rz0 rc1 rz1 rc2 rz2
              have rc0 := BlkV.cell kR 0 rfl
              have rz0 := BlkV.frozen kR 0
              have rc1 := BlkV.cell kR 1 rfl
              have rz1 := BlkV.frozen kR 1
              have rc2 := BlkV.cell kR 2 rfl
              have rz2 := BlkV.frozen kR 2
              refine bodyPost_ret (by simp [results, Tryd.results19, go_sem, rc0, rc1, rc2]; try rfl) rfl ?_
              exact ⟨_, by rw [HE.out], ⟨fun _ => by rw [HQQ.out]; exact hv, fun h => absurd HE.out h⟩, hF⟩
          · have HE : Hid (parseQE s = eB) := hid (HQ3.out.trans (if_pos hB))
            have HNE := hid hB
            have hBb : (eB == 0) = false := by simpa using hB
            clear hB
            have hb1 : -1000 ≤ eB ∧ eB ≤ 1000 := by omega
            obtain ⟨hb2, hb3⟩ := hb1
            clear cA cB
            go_wp2_with (with_reducible refine stop_here ?_)
            refine ⟨?_⟩
            have hz : BlkV (((w3.setCell ⟨w.heap.size, 0, none⟩ (.bool false)).setCell ⟨w.heap.size, 1, none⟩ (.slice none 0 0)).setCell ⟨w.heap.size, 2, none⟩ (.slice none 0 0)) (w.heap.size) 24 [.bool false, .slice none 0 0, .slice none 0 0] := ((BlkV.set kR 0 (.bool false)).set 1 (.slice none 0 0)).set 2 (.slice none 0 0)
            have hon : Only (w.heap.size) w3 (((w3.setCell ⟨w.heap.size, 0, none⟩ (.bool false)).setCell ⟨w.heap.size, 1, none⟩ (.slice none 0 0)).setCell ⟨w.heap.size, 2, none⟩ (.slice none 0 0)) := ((Only.set (w.heap.size) w3 0 (.bool false)).setv 1 (.slice none 0 0)).setv 2 (.slice none 0 0)
            replace fA := fA.keepV kR (by simp) hon
            replace fB := fB.keepV kR (by simp) hon
            replace hF := hF.wrote hon (by omega)
            clear kR
            have kR := hz
            clear hz hon
            generalize (((w3.setCell ⟨w.heap.size, 0, none⟩ (.bool false)).setCell ⟨w.heap.size, 1, none⟩ (.slice none 0 0)).setCell ⟨w.heap.size, 2, none⟩ (.slice none 0 0)) = w4 at fA fB kR hF ⊢
            clear rc0 rz0 rc1 rz1 rc2 rz2
            have rc0 := BlkV.cell kR 0 rfl
            have rz0 := BlkV.frozen kR 0
            have rc1 := BlkV.cell kR 1 rfl
            have rz1 := BlkV.frozen kR 1
            have rc2 := BlkV.cell kR 2 rfl
            have rz2 := BlkV.frozen kR 2
            refine bodyPost_ret (by simp [results, Tryd.results19, go_sem, rc0, rc1, rc2]; try rfl) rfl ?_
            exact ⟨_, by rw [HE.out]; rfl, ⟨fun h => absurd (HE.out.symm.trans h) HNE.out, fun _ => ratZero_rw _⟩, hF⟩
        · have HE : Hid (parseQE s = eA) := hid (HQ2.out.trans (if_pos hA))
          have HNE := hid hA
          have hAb : (eA == 0) = false := by simpa using hA
          clear hA
          have hb1 : -1000 ≤ eA ∧ eA ≤ 1000 := by omega
          obtain ⟨hb2, hb3⟩ := hb1
          clear cA cB
          go_wp2_with (with_reducible refine stop_here ?_)
          refine ⟨?_⟩
          have hz : BlkV (((w2.setCell ⟨w.heap.size, 0, none⟩ (.bool false)).setCell ⟨w.heap.size, 1, none⟩ (.slice none 0 0)).setCell ⟨w.heap.size, 2, none⟩ (.slice none 0 0)) (w.heap.size) 24 [.bool false, .slice none 0 0, .slice none 0 0] := ((BlkV.set kR 0 (.bool false)).set 1 (.slice none 0 0)).set 2 (.slice none 0 0)
          have hon : Only (w.heap.size) w2 (((w2.setCell ⟨w.heap.size, 0, none⟩ (.bool false)).setCell ⟨w.heap.size, 1, none⟩ (.slice none 0 0)).setCell ⟨w.heap.size, 2, none⟩ (.slice none 0 0)) := ((Only.set (w.heap.size) w2 0 (.bool false)).setv 1 (.slice none 0 0)).setv 2 (.slice none 0 0)
          replace fA := fA.keepV kR (by simp) hon
          replace hF := hF.wrote hon (by omega)
          clear kR
          have kR := hz
          clear hz hon
          generalize (((w2.setCell ⟨w.heap.size, 0, none⟩ (.bool false)).setCell ⟨w.heap.size, 1, none⟩ (.slice none 0 0)).setCell ⟨w.heap.size, 2, none⟩ (.slice none 0 0)) = w3 at fA kR hF ⊢
          clear rc0 rz0 rc1 rz1 rc2 rz2
          have rc0 := BlkV.cell kR 0 rfl
          have rz0 := BlkV.frozen kR 0
          have rc1 := BlkV.cell kR 1 rfl
          have rz1 := BlkV.frozen kR 1
          have rc2 := BlkV.cell kR 2 rfl
          have rz2 := BlkV.frozen kR 2
          refine bodyPost_ret (by simp [results, Tryd.results19, go_sem, rc0, rc1, rc2]; try rfl) rfl ?_
          exact ⟨_, by rw [HE.out]; rfl, ⟨fun h => absurd (HE.out.symm.trans h) HNE.out, fun _ => ratZero_rw _⟩, hF⟩

end Go.Proofs.YtjkoiocemolcbaaDoor
