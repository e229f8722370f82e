/- RatKnown: these answers are just these: the law's walk. -/
import Derived.Test.YtjkoiocemolcbabDoorXP15
import Derived.Test.YtjkoiocemolcbabDoorXU2
import Derived.Test.YtjkoiocemolcbabDoorXP11
import Derived.Test.YtjkoiocemolcbabDoorXU1
import Derived.Test.YtjkoiocemolcbabDoorXV1
import Derived.Test.YtjkoiocemolcbabDoorXP8
import Derived.Test.YtjkoiocemolcbabDoorXP10
import Derived.Test.YtjkoiocemolcbabDoorXP12
namespace Go.Proofs.YtjkoiocemolcbabDoor
open Go.RowKit
set_option linter.unusedVariables false
set_option linter.unusedSimpArgs false

/-- What is asked, and what must be answered. -/
def KnownQ (s t : ByteArray) : Prop := s.size ≤ 10 ∧ ((parseQE s = 0 ∧ textR (negQ (parseQV s)) (parseQV s).num.natAbs (parseQV s).den = t ∧ nr (parseQV s) ≤ 1) ∨ (parseQE s = 4 ∧ t = ⟨#[102, 111, 114, 109]⟩) ∨ (parseQE s = 5 ∧ t = ⟨#[122, 101, 114, 111]⟩))
theorem known_facts (k : Nat) (hk : k < 14) : ∃ s t : ByteArray, [Value.string ⟨#[48]⟩, Value.string ⟨#[45, 48]⟩, Value.string ⟨#[52, 47, 50]⟩, Value.string ⟨#[45, 57, 47, 54]⟩, Value.string ⟨#[48, 47, 55]⟩, Value.string ⟨#[49, 47, 48]⟩, Value.string ⟨#[97]⟩, Value.string ⟨#[49, 47, 47, 50]⟩, Value.string ⟨#[]⟩, Value.string ⟨#[45]⟩, Value.string ⟨#[49, 47, 48, 50]⟩, Value.string ⟨#[53, 47, 49]⟩, Value.string ⟨#[43, 49]⟩, Value.string ⟨#[49, 48, 47, 52]⟩][k]? = some (Value.string s) ∧ [Value.string ⟨#[48]⟩, Value.string ⟨#[48]⟩, Value.string ⟨#[50]⟩, Value.string ⟨#[45, 51, 47, 50]⟩, Value.string ⟨#[48]⟩, Value.string ⟨#[122, 101, 114, 111]⟩, Value.string ⟨#[102, 111, 114, 109]⟩, Value.string ⟨#[102, 111, 114, 109]⟩, Value.string ⟨#[102, 111, 114, 109]⟩, Value.string ⟨#[102, 111, 114, 109]⟩, Value.string ⟨#[102, 111, 114, 109]⟩, Value.string ⟨#[53]⟩, Value.string ⟨#[102, 111, 114, 109]⟩, Value.string ⟨#[53, 47, 50]⟩][k]? = some (Value.string t) ∧ KnownQ s t := by
  have hk4 : k = 0 ∨ k = 1 ∨ k = 2 ∨ k = 3 ∨ k = 4 ∨ k = 5 ∨ k = 6 ∨ k = 7 ∨ k = 8 ∨ k = 9 ∨ k = 10 ∨ k = 11 ∨ k = 12 ∨ k = 13 := by omega
  rcases hk4 with rfl | rfl | rfl | rfl | rfl | rfl | rfl | rfl | rfl | rfl | rfl | rfl | rfl | rfl
  · exact ⟨_, _, rfl, rfl, by decide, .inl ⟨by decide +kernel, by decide +kernel, by decide +kernel⟩⟩
  · exact ⟨_, _, rfl, rfl, by decide, .inl ⟨by decide +kernel, by decide +kernel, by decide +kernel⟩⟩
  · exact ⟨_, _, rfl, rfl, by decide, .inl ⟨by decide +kernel, by decide +kernel, by decide +kernel⟩⟩
  · exact ⟨_, _, rfl, rfl, by decide, .inl ⟨by decide +kernel, by decide +kernel, by decide +kernel⟩⟩
  · exact ⟨_, _, rfl, rfl, by decide, .inl ⟨by decide +kernel, by decide +kernel, by decide +kernel⟩⟩
  · exact ⟨_, _, rfl, rfl, by decide, .inr (.inr ⟨by decide +kernel, rfl⟩)⟩
  · exact ⟨_, _, rfl, rfl, by decide, .inr (.inl ⟨by decide +kernel, rfl⟩)⟩
  · exact ⟨_, _, rfl, rfl, by decide, .inr (.inl ⟨by decide +kernel, rfl⟩)⟩
  · exact ⟨_, _, rfl, rfl, by decide, .inr (.inl ⟨by decide +kernel, rfl⟩)⟩
  · exact ⟨_, _, rfl, rfl, by decide, .inr (.inl ⟨by decide +kernel, rfl⟩)⟩
  · exact ⟨_, _, rfl, rfl, by decide, .inr (.inl ⟨by decide +kernel, rfl⟩)⟩
  · exact ⟨_, _, rfl, rfl, by decide, .inl ⟨by decide +kernel, by decide +kernel, by decide +kernel⟩⟩
  · exact ⟨_, _, rfl, rfl, by decide, .inr (.inl ⟨by decide +kernel, rfl⟩)⟩
  · exact ⟨_, _, rfl, rfl, by decide, .inl ⟨by decide +kernel, by decide +kernel, by decide +kernel⟩⟩

set_option maxHeartbeats 1000000 in
theorem errWord4 (w : World) : Calls Tryd.prog 10 #[.int .i64 4] w fun e w' => e = .returned (.string ⟨#[102, 111, 114, 109]⟩) ∧ Fwd w w' := by
  go_enter Tryd.func10, Tryd.ntmps10
  go_wp2
  go_ret
  exact ⟨rfl, Fwd.refl w⟩

set_option maxHeartbeats 1000000 in
theorem errWord5 (w : World) : Calls Tryd.prog 10 #[.int .i64 5] w fun e w' => e = .returned (.string ⟨#[122, 101, 114, 111]⟩) ∧ Fwd w w' := by
  go_enter Tryd.func10, Tryd.ntmps10
  go_wp2
  go_ret
  exact ⟨rfl, Fwd.refl w⟩

set_option maxHeartbeats 20000000 in
set_option maxRecDepth 20000 in
theorem ratKnown_walk {w : World} {m : Int} (hm : (Lit.int .i64 m).wf = true) :
    Calls Tryd.prog 3 #[.int .i64 m] w fun e w' => e = .returned (.bool true) ∧ Below w.heap.size w w' := by
  obtain ⟨m1, m2⟩ := bounds_i64 hm
  clear hm
  have hF : Fwd w w := Fwd.refl w
  go_enter Tryd.func3, Tryd.ntmps3
  go_wp2_with fail
  refine (known2_any _).mono ?_
  rintro e w1 ⟨rfl, hf1⟩
  replace hF := hF.trans hf1
  clear hf1
  have hfB : Fwd w1 ((w1.alloc (.cells #[.string ⟨#[48]⟩, .string ⟨#[45, 48]⟩, .string ⟨#[52, 47, 50]⟩, .string ⟨#[45, 57, 47, 54]⟩, .string ⟨#[48, 47, 55]⟩, .string ⟨#[49, 47, 48]⟩, .string ⟨#[97]⟩, .string ⟨#[49, 47, 47, 50]⟩, .string ⟨#[]⟩, .string ⟨#[45]⟩, .string ⟨#[49, 47, 48, 50]⟩, .string ⟨#[53, 47, 49]⟩, .string ⟨#[43, 49]⟩, .string ⟨#[49, 48, 47, 52]⟩] 9)).alloc (.cells #[.string ⟨#[48]⟩, .string ⟨#[48]⟩, .string ⟨#[50]⟩, .string ⟨#[45, 51, 47, 50]⟩, .string ⟨#[48]⟩, .string ⟨#[122, 101, 114, 111]⟩, .string ⟨#[102, 111, 114, 109]⟩, .string ⟨#[102, 111, 114, 109]⟩, .string ⟨#[102, 111, 114, 109]⟩, .string ⟨#[102, 111, 114, 109]⟩, .string ⟨#[102, 111, 114, 109]⟩, .string ⟨#[53]⟩, .string ⟨#[102, 111, 114, 109]⟩, .string ⟨#[53, 47, 50]⟩] 9)) := ((Fwd.refl _).alloc _).alloc _
  have kL : BlkV ((w1.alloc (.cells #[.string ⟨#[48]⟩, .string ⟨#[45, 48]⟩, .string ⟨#[52, 47, 50]⟩, .string ⟨#[45, 57, 47, 54]⟩, .string ⟨#[48, 47, 55]⟩, .string ⟨#[49, 47, 48]⟩, .string ⟨#[97]⟩, .string ⟨#[49, 47, 47, 50]⟩, .string ⟨#[]⟩, .string ⟨#[45]⟩, .string ⟨#[49, 47, 48, 50]⟩, .string ⟨#[53, 47, 49]⟩, .string ⟨#[43, 49]⟩, .string ⟨#[49, 48, 47, 52]⟩] 9)).alloc (.cells #[.string ⟨#[48]⟩, .string ⟨#[48]⟩, .string ⟨#[50]⟩, .string ⟨#[45, 51, 47, 50]⟩, .string ⟨#[48]⟩, .string ⟨#[122, 101, 114, 111]⟩, .string ⟨#[102, 111, 114, 109]⟩, .string ⟨#[102, 111, 114, 109]⟩, .string ⟨#[102, 111, 114, 109]⟩, .string ⟨#[102, 111, 114, 109]⟩, .string ⟨#[102, 111, 114, 109]⟩, .string ⟨#[53]⟩, .string ⟨#[102, 111, 114, 109]⟩, .string ⟨#[53, 47, 50]⟩] 9)) w1.heap.size 9 [.string ⟨#[48]⟩, .string ⟨#[45, 48]⟩, .string ⟨#[52, 47, 50]⟩, .string ⟨#[45, 57, 47, 54]⟩, .string ⟨#[48, 47, 55]⟩, .string ⟨#[49, 47, 48]⟩, .string ⟨#[97]⟩, .string ⟨#[49, 47, 47, 50]⟩, .string ⟨#[]⟩, .string ⟨#[45]⟩, .string ⟨#[49, 47, 48, 50]⟩, .string ⟨#[53, 47, 49]⟩, .string ⟨#[43, 49]⟩, .string ⟨#[49, 48, 47, 52]⟩] := (BlkV.made w1 9 [.string ⟨#[48]⟩, .string ⟨#[45, 48]⟩, .string ⟨#[52, 47, 50]⟩, .string ⟨#[45, 57, 47, 54]⟩, .string ⟨#[48, 47, 55]⟩, .string ⟨#[49, 47, 48]⟩, .string ⟨#[97]⟩, .string ⟨#[49, 47, 47, 50]⟩, .string ⟨#[]⟩, .string ⟨#[45]⟩, .string ⟨#[49, 47, 48, 50]⟩, .string ⟨#[53, 47, 49]⟩, .string ⟨#[43, 49]⟩, .string ⟨#[49, 48, 47, 52]⟩]).alloc _
  have kW : BlkV ((w1.alloc (.cells #[.string ⟨#[48]⟩, .string ⟨#[45, 48]⟩, .string ⟨#[52, 47, 50]⟩, .string ⟨#[45, 57, 47, 54]⟩, .string ⟨#[48, 47, 55]⟩, .string ⟨#[49, 47, 48]⟩, .string ⟨#[97]⟩, .string ⟨#[49, 47, 47, 50]⟩, .string ⟨#[]⟩, .string ⟨#[45]⟩, .string ⟨#[49, 47, 48, 50]⟩, .string ⟨#[53, 47, 49]⟩, .string ⟨#[43, 49]⟩, .string ⟨#[49, 48, 47, 52]⟩] 9)).alloc (.cells #[.string ⟨#[48]⟩, .string ⟨#[48]⟩, .string ⟨#[50]⟩, .string ⟨#[45, 51, 47, 50]⟩, .string ⟨#[48]⟩, .string ⟨#[122, 101, 114, 111]⟩, .string ⟨#[102, 111, 114, 109]⟩, .string ⟨#[102, 111, 114, 109]⟩, .string ⟨#[102, 111, 114, 109]⟩, .string ⟨#[102, 111, 114, 109]⟩, .string ⟨#[102, 111, 114, 109]⟩, .string ⟨#[53]⟩, .string ⟨#[102, 111, 114, 109]⟩, .string ⟨#[53, 47, 50]⟩] 9)) (w1.heap.size + 1) 9 [.string ⟨#[48]⟩, .string ⟨#[48]⟩, .string ⟨#[50]⟩, .string ⟨#[45, 51, 47, 50]⟩, .string ⟨#[48]⟩, .string ⟨#[122, 101, 114, 111]⟩, .string ⟨#[102, 111, 114, 109]⟩, .string ⟨#[102, 111, 114, 109]⟩, .string ⟨#[102, 111, 114, 109]⟩, .string ⟨#[102, 111, 114, 109]⟩, .string ⟨#[102, 111, 114, 109]⟩, .string ⟨#[53]⟩, .string ⟨#[102, 111, 114, 109]⟩, .string ⟨#[53, 47, 50]⟩] := BlkV.made' (w1.alloc (.cells #[.string ⟨#[48]⟩, .string ⟨#[45, 48]⟩, .string ⟨#[52, 47, 50]⟩, .string ⟨#[45, 57, 47, 54]⟩, .string ⟨#[48, 47, 55]⟩, .string ⟨#[49, 47, 48]⟩, .string ⟨#[97]⟩, .string ⟨#[49, 47, 47, 50]⟩, .string ⟨#[]⟩, .string ⟨#[45]⟩, .string ⟨#[49, 47, 48, 50]⟩, .string ⟨#[53, 47, 49]⟩, .string ⟨#[43, 49]⟩, .string ⟨#[49, 48, 47, 52]⟩] 9)) (w1.heap.size + 1) (by simp) 9 [.string ⟨#[48]⟩, .string ⟨#[48]⟩, .string ⟨#[50]⟩, .string ⟨#[45, 51, 47, 50]⟩, .string ⟨#[48]⟩, .string ⟨#[122, 101, 114, 111]⟩, .string ⟨#[102, 111, 114, 109]⟩, .string ⟨#[102, 111, 114, 109]⟩, .string ⟨#[102, 111, 114, 109]⟩, .string ⟨#[102, 111, 114, 109]⟩, .string ⟨#[102, 111, 114, 109]⟩, .string ⟨#[53]⟩, .string ⟨#[102, 111, 114, 109]⟩, .string ⟨#[53, 47, 50]⟩]
  replace hF := hF.trans hfB
  clear hfB
  go_wp2_with fail
  refine (within2_any _ m 14 (by omega) (by omega) m1 m2).mono ?_
  rintro e wq ⟨k, hk, rfl, rfl⟩
  generalize ((w1.alloc (.cells #[.string ⟨#[48]⟩, .string ⟨#[45, 48]⟩, .string ⟨#[52, 47, 50]⟩, .string ⟨#[45, 57, 47, 54]⟩, .string ⟨#[48, 47, 55]⟩, .string ⟨#[49, 47, 48]⟩, .string ⟨#[97]⟩, .string ⟨#[49, 47, 47, 50]⟩, .string ⟨#[]⟩, .string ⟨#[45]⟩, .string ⟨#[49, 47, 48, 50]⟩, .string ⟨#[53, 47, 49]⟩, .string ⟨#[43, 49]⟩, .string ⟨#[49, 48, 47, 52]⟩] 9)).alloc (.cells #[.string ⟨#[48]⟩, .string ⟨#[48]⟩, .string ⟨#[50]⟩, .string ⟨#[45, 51, 47, 50]⟩, .string ⟨#[48]⟩, .string ⟨#[122, 101, 114, 111]⟩, .string ⟨#[102, 111, 114, 109]⟩, .string ⟨#[102, 111, 114, 109]⟩, .string ⟨#[102, 111, 114, 109]⟩, .string ⟨#[102, 111, 114, 109]⟩, .string ⟨#[102, 111, 114, 109]⟩, .string ⟨#[53]⟩, .string ⟨#[102, 111, 114, 109]⟩, .string ⟨#[53, 47, 50]⟩] 9)) = w2 at kL kW hF ⊢
  obtain ⟨s, t, hs1, ht1, hfact⟩ := known_facts k hk
  have hsz := hfact.1
  have hcs := BlkV.cell kL k hs1
  have hct := BlkV.cell kW k ht1
  have htl := BlkV.lt kW
  have htl2 := BlkV.lt kL
  have hk1 : (0 : Int) ≤ (k : Int) := by omega
  have hk2 : (k : Int) < 14 := by omega
  have hk3 : (k : Int) ≤ 14 := by omega
  have HFA := hid hfact.2
  clear kL hs1 hfact
  have HKW := hid (And.intro kW ht1)
  clear kW ht1
  go_wp2_with fail
  refine (rparse_any _ s (by omega)).mono ?_
  rintro e w3 ⟨v, rfl, hp, hfp⟩
  replace hF := hF.trans hfp
  have kW := HKW.out.1.fwd hfp
  have ht1 := HKW.out.2
  replace htl2 : w1.heap.size < w3.heap.size := Nat.lt_of_lt_of_le htl2 hfp.size
  clear hcs hct hfp HKW
  rcases HFA.out with ⟨e1, e2, e3⟩ | ⟨e1, e2⟩ | ⟨e1, e2⟩
  · have rA := hp.1 e1
    rw [e1]
    have HT := hid e2
    clear e1 e2 hp HFA
    generalize parseQV s = q at rA HT e3
    have b1 := (nr_le e3).1
    have b2 := (nr_le e3).2
    have HV := hid rA
    obtain ⟨poA, pcA, qoA, qcA, rfl, p1A, p2A, p3A, p4A, -, -⟩ := RW.open rA.rw'
    clear rA
    have rA := HV.out
    clear HV
    have hfB : Fwd w3 (w3.alloc (.cells #[.bool (negQ q), .slice poA (nl q.num.natAbs) pcA, .slice qoA (nl q.den) qcA] 27)) := (Fwd.refl _).alloc _
    replace rA := rA.fwd hfB
    replace kW := kW.fwd hfB
    replace hF := hF.trans hfB
    clear hfB
    skip
    have kA := BlkV.made w3 27 [.bool (negQ q), .slice poA (nl q.num.natAbs) pcA, .slice qoA (nl q.den) qcA]
    go_upto_region 7 with fail
    generalize (w3.alloc (.cells #[.bool (negQ q), .slice poA (nl q.num.natAbs) pcA, .slice qoA (nl q.den) qcA] 27)) = w4 at kA kW rA hF ⊢
    have ac0 := BlkV.cell kA 0 rfl
    have ac1 := BlkV.cell kA 1 rfl
    have ac2 := BlkV.cell kA 2 rfl
    go_upto_region 9 with fail
    have hct := BlkV.cell kW k ht1
    replace rA := rA.drew
    replace kA := kA.drew
    replace hF := hF.drew
    clear ac0 ac1 ac2
    have ac0 := BlkV.cell kA 0 rfl
    have ac1 := BlkV.cell kA 1 rfl
    have ac2 := BlkV.cell kA 2 rfl
    replace hct : w4.drew.cell? ⟨w1.heap.size + 1, k, none⟩ = some (.string t) := hct
    refine wp_region_held_drew (S := fun w' => w'.cell? ⟨w3.heap.size, 0, none⟩ = some (.bool (negQ q)) ∧ w'.cell? ⟨w3.heap.size, 1, none⟩ = some (.slice poA (nl q.num.natAbs) pcA) ∧ w'.cell? ⟨w3.heap.size, 2, none⟩ = some (.slice qoA (nl q.den) qcA) ∧ w'.cell? ⟨w1.heap.size + 1, k, none⟩ = some (.string t)) (by kernel_rfl) ⟨by with_reducible assumption, by with_reducible assumption, by with_reducible assumption, by with_reducible assumption⟩ (fun hHeld => ?_)
    refine wpAnyH_take (i := 0) (oi := ?oi1_0) (v := ?vv1_0) ?hi1_0 (by kernel_rfl) (by kernel_rfl) (by kernel_rfl) ?hq1_0 ?hy1_0 hHeld ?rest1_0
    case hi1_0 => (simp only [List.getElem?_toArray, List.getElem?_cons_succ, List.getElem?_cons_zero]; rfl)
    case hq1_0 => exact fun _ _ _ h => h
    case hy1_0 =>
      refine Or.inl ⟨by rfl, ?_⟩
      intro wS hSw
      try dsimp only at hSw
      obtain ⟨q0, q1, q2, q3⟩ := hSw
      go_simp
      try with_reducible rfl
    simp only [Act.put, List.setIfInBounds_toArray, List.set_cons_zero, List.set_cons_succ]
    refine wpAnyH_take (i := 2) (oi := ?oi2_2) (v := ?vv2_2) ?hi2_2 (by kernel_rfl) (by kernel_rfl) (by kernel_rfl) ?hq2_2 ?hy2_2 hHeld ?rest2_2
    case hi2_2 => (simp only [List.getElem?_toArray, List.getElem?_cons_succ, List.getElem?_cons_zero]; rfl)
    case hq2_2 => exact fun _ _ _ h => h
    case hy2_2 =>
      refine Or.inl ⟨by rfl, ?_⟩
      intro wS hSw
      try dsimp only at hSw
      obtain ⟨q0, q1, q2, q3⟩ := hSw
      go_simp
      try with_reducible rfl
    simp only [Act.put, List.setIfInBounds_toArray, List.set_cons_zero, List.set_cons_succ]
    refine wpAnyH_take (i := 3) (oi := ?oi3_3) (v := ?vv3_3) ?hi3_3 (by kernel_rfl) (by kernel_rfl) (by kernel_rfl) ?hq3_3 ?hy3_3 hHeld ?rest3_3
    case hi3_3 => (simp only [List.getElem?_toArray, List.getElem?_cons_succ, List.getElem?_cons_zero]; rfl)
    case hq3_3 => exact fun _ _ _ h => h
    case hy3_3 =>
      refine Or.inl ⟨by rfl, ?_⟩
      intro wS hSw
      try dsimp only at hSw
      obtain ⟨q0, q1, q2, q3⟩ := hSw
      go_simp
      try with_reducible rfl
    simp only [Act.put, List.setIfInBounds_toArray, List.set_cons_zero, List.set_cons_succ]
    refine wpAnyH_take (i := 4) (oi := ?oi4_4) (v := ?vv4_4) ?hi4_4 (by kernel_rfl) (by kernel_rfl) (by kernel_rfl) ?hq4_4 ?hy4_4 hHeld ?rest4_4
    case hi4_4 => (simp only [List.getElem?_toArray, List.getElem?_cons_succ, List.getElem?_cons_zero]; rfl)
    case hq4_4 => exact fun _ _ _ h => h
    case hy4_4 =>
      refine Or.inl ⟨by rfl, ?_⟩
      intro wS hSw
      try dsimp only at hSw
      obtain ⟨q0, q1, q2, q3⟩ := hSw
      go_simp
      try with_reducible rfl
    simp only [Act.put, List.setIfInBounds_toArray, List.set_cons_zero, List.set_cons_succ]
    refine wpAnyH_take (i := 5) (oi := ?oi5_5) (v := ?vv5_5) ?hi5_5 (by kernel_rfl) (by kernel_rfl) (by kernel_rfl) ?hq5_5 ?hy5_5 hHeld ?rest5_5
    case hi5_5 => (simp only [List.getElem?_toArray, List.getElem?_cons_succ, List.getElem?_cons_zero]; rfl)
    case hq5_5 => exact fun _ _ _ h => h
    case hy5_5 =>
      refine Or.inl ⟨by rfl, ?_⟩
      intro wS hSw
      try dsimp only at hSw
      obtain ⟨q0, q1, q2, q3⟩ := hSw
      go_simp
      try with_reducible rfl
    simp only [Act.put, List.setIfInBounds_toArray, List.set_cons_zero, List.set_cons_succ]
    refine wpAnyH_ready (rs := [1]) (by kernel_rfl) (by simp) ?_
    refine AllReadyH.cons rfl (fun K hK => ?_) AllReadyH.nil
    go_simp
    refine (rtext_raw rA.rw' (by omega) (by omega)).mono ?_
    rintro e w5 ⟨rfl, hf5⟩
    have HF0 := hf5
    replace rA := rA.fwd hf5
    replace kA := kA.fwd hf5
    replace hF := hF.trans hf5
    clear hf5
    clear ac0 ac1 ac2
    have ac0 := BlkV.cell kA 0 rfl
    have ac1 := BlkV.cell kA 1 rfl
    have ac2 := BlkV.cell kA 2 rfl
    replace hct := HF0.cell hct
    clear HF0
    rw [HT.out]
    go_wp2_with fail
    clear hHeld
    refine hK.out _ _ ⟨by with_reducible assumption, by with_reducible assumption, by with_reducible assumption, by with_reducible assumption⟩ (fun hHeld => ?_)
    clear hK K
    try simp only [Act.put, List.setIfInBounds_toArray, List.set_cons_zero, List.set_cons_succ]
    refine wpAnyH_take (i := 6) (oi := ?oi6_6) (v := ?vv6_6) ?hi6_6 (by kernel_rfl) (by kernel_rfl) (by kernel_rfl) ?hq6_6 ?hy6_6 hHeld ?rest6_6
    case hi6_6 => (simp only [List.getElem?_toArray, List.getElem?_cons_succ, List.getElem?_cons_zero]; rfl)
    case hq6_6 => exact fun _ _ _ h => h
    case hy6_6 =>
      refine Or.inl ⟨by rfl, ?_⟩
      intro wS hSw
      try dsimp only at hSw
      obtain ⟨q0, q1, q2, q3⟩ := hSw
      go_simp
      try with_reducible rfl
    simp only [Act.put, List.setIfInBounds_toArray, List.set_cons_zero, List.set_cons_succ]
    refine wpAnyH_take (i := 7) (oi := ?oi7_7) (v := ?vv7_7) ?hi7_7 (by kernel_rfl) (by kernel_rfl) (by kernel_rfl) ?hq7_7 ?hy7_7 hHeld ?rest7_7
    case hi7_7 => (simp only [List.getElem?_toArray, List.getElem?_cons_succ, List.getElem?_cons_zero]; rfl)
    case hq7_7 => exact fun _ _ _ h => h
    case hy7_7 =>
      refine Or.inl ⟨by rfl, ?_⟩
      intro wS hSw
      try dsimp only at hSw
      obtain ⟨q0, q1, q2, q3⟩ := hSw
      go_simp
      try with_reducible rfl
    simp only [Act.put, List.setIfInBounds_toArray, List.set_cons_zero, List.set_cons_succ]
    refine wpAnyH_done (by kernel_rfl) ?_ _
    go_wp2_with fail
    go_ret
    exact ⟨rfl, hF⟩
  · have rA := hp.2 (by rw [e1]; decide)
    rw [e1]
    subst e2
    clear e1 hp HFA
    have bz : nl 0 = 0 := nl_zero
    have HV := hid rA
    obtain ⟨poA, pcA, qoA, qcA, rfl, p1A, p2A, p3A, p4A, -, -⟩ := RW.open rA
    clear rA
    have rA := HV.out
    clear HV
    rw [bz] at *
    have hfB : Fwd w3 (w3.alloc (.cells #[.bool false, .slice poA 0 pcA, .slice qoA 0 qcA] 27)) := (Fwd.refl _).alloc _
    replace kW := kW.fwd hfB
    replace hF := hF.trans hfB
    clear hfB
    skip
    have kA := BlkV.made w3 27 [.bool false, .slice poA 0 pcA, .slice qoA 0 qcA]
    go_upto_region 7 with fail
    generalize (w3.alloc (.cells #[.bool false, .slice poA 0 pcA, .slice qoA 0 qcA] 27)) = w4 at kA kW  hF ⊢
    have ac0 := BlkV.cell kA 0 rfl
    have ac1 := BlkV.cell kA 1 rfl
    have ac2 := BlkV.cell kA 2 rfl
    go_upto_region 8 with fail
    have hct := BlkV.cell kW k ht1
    replace kA := kA.drew
    replace hF := hF.drew
    clear ac0 ac1 ac2
    have ac0 := BlkV.cell kA 0 rfl
    have ac1 := BlkV.cell kA 1 rfl
    have ac2 := BlkV.cell kA 2 rfl
    replace hct : w4.drew.cell? ⟨w1.heap.size + 1, k, none⟩ = some (.string ⟨#[102, 111, 114, 109]⟩) := hct
    refine wp_region_held_drew (S := fun w' => w'.cell? ⟨w3.heap.size, 0, none⟩ = some (.bool false) ∧ w'.cell? ⟨w3.heap.size, 1, none⟩ = some (.slice poA 0 pcA) ∧ w'.cell? ⟨w3.heap.size, 2, none⟩ = some (.slice qoA 0 qcA) ∧ w'.cell? ⟨w1.heap.size + 1, k, none⟩ = some (.string ⟨#[102, 111, 114, 109]⟩)) (by kernel_rfl) ⟨by with_reducible assumption, by with_reducible assumption, by with_reducible assumption, by with_reducible assumption⟩ (fun hHeld => ?_)
    refine wpAnyH_take (i := 0) (oi := ?oi8_0) (v := ?vv8_0) ?hi8_0 (by kernel_rfl) (by kernel_rfl) (by kernel_rfl) ?hq8_0 ?hy8_0 hHeld ?rest8_0
    case hi8_0 => (simp only [List.getElem?_toArray, List.getElem?_cons_succ, List.getElem?_cons_zero]; rfl)
    case hq8_0 => exact fun _ _ _ h => h
    case hy8_0 =>
      refine Or.inl ⟨by rfl, ?_⟩
      intro wS hSw
      try dsimp only at hSw
      obtain ⟨q0, q1, q2, q3⟩ := hSw
      go_simp
      try with_reducible rfl
    simp only [Act.put, List.setIfInBounds_toArray, List.set_cons_zero, List.set_cons_succ]
    refine wpAnyH_take (i := 2) (oi := ?oi9_2) (v := ?vv9_2) ?hi9_2 (by kernel_rfl) (by kernel_rfl) (by kernel_rfl) ?hq9_2 ?hy9_2 hHeld ?rest9_2
    case hi9_2 => (simp only [List.getElem?_toArray, List.getElem?_cons_succ, List.getElem?_cons_zero]; rfl)
    case hq9_2 => exact fun _ _ _ h => h
    case hy9_2 =>
      refine Or.inl ⟨by rfl, ?_⟩
      intro wS hSw
      try dsimp only at hSw
      obtain ⟨q0, q1, q2, q3⟩ := hSw
      go_simp
      try with_reducible rfl
    simp only [Act.put, List.setIfInBounds_toArray, List.set_cons_zero, List.set_cons_succ]
    refine wpAnyH_take (i := 3) (oi := ?oi10_3) (v := ?vv10_3) ?hi10_3 (by kernel_rfl) (by kernel_rfl) (by kernel_rfl) ?hq10_3 ?hy10_3 hHeld ?rest10_3
    case hi10_3 => (simp only [List.getElem?_toArray, List.getElem?_cons_succ, List.getElem?_cons_zero]; rfl)
    case hq10_3 => exact fun _ _ _ h => h
    case hy10_3 =>
      refine Or.inl ⟨by rfl, ?_⟩
      intro wS hSw
      try dsimp only at hSw
      obtain ⟨q0, q1, q2, q3⟩ := hSw
      go_simp
      try with_reducible rfl
    simp only [Act.put, List.setIfInBounds_toArray, List.set_cons_zero, List.set_cons_succ]
    refine wpAnyH_take (i := 4) (oi := ?oi11_4) (v := ?vv11_4) ?hi11_4 (by kernel_rfl) (by kernel_rfl) (by kernel_rfl) ?hq11_4 ?hy11_4 hHeld ?rest11_4
    case hi11_4 => (simp only [List.getElem?_toArray, List.getElem?_cons_succ, List.getElem?_cons_zero]; rfl)
    case hq11_4 => exact fun _ _ _ h => h
    case hy11_4 =>
      refine Or.inl ⟨by rfl, ?_⟩
      intro wS hSw
      try dsimp only at hSw
      obtain ⟨q0, q1, q2, q3⟩ := hSw
      go_simp
      try with_reducible rfl
    simp only [Act.put, List.setIfInBounds_toArray, List.set_cons_zero, List.set_cons_succ]
    refine wpAnyH_take (i := 5) (oi := ?oi12_5) (v := ?vv12_5) ?hi12_5 (by kernel_rfl) (by kernel_rfl) (by kernel_rfl) ?hq12_5 ?hy12_5 hHeld ?rest12_5
    case hi12_5 => (simp only [List.getElem?_toArray, List.getElem?_cons_succ, List.getElem?_cons_zero]; rfl)
    case hq12_5 => exact fun _ _ _ h => h
    case hy12_5 =>
      refine Or.inl ⟨by rfl, ?_⟩
      intro wS hSw
      try dsimp only at hSw
      obtain ⟨q0, q1, q2, q3⟩ := hSw
      go_simp
      try with_reducible rfl
    simp only [Act.put, List.setIfInBounds_toArray, List.set_cons_zero, List.set_cons_succ]
    refine wpAnyH_ready (rs := [1]) (by kernel_rfl) (by simp) ?_
    refine AllReadyH.cons rfl (fun K hK => ?_) AllReadyH.nil
    go_simp
    refine (errWord4 _).mono ?_
    rintro e w5 ⟨rfl, hf5⟩
    have HF0 := hf5
    replace kA := kA.fwd hf5
    replace hF := hF.trans hf5
    clear hf5
    clear ac0 ac1 ac2
    have ac0 := BlkV.cell kA 0 rfl
    have ac1 := BlkV.cell kA 1 rfl
    have ac2 := BlkV.cell kA 2 rfl
    replace hct := HF0.cell hct
    clear HF0
    go_wp2_with fail
    clear hHeld
    refine hK.out _ _ ⟨by with_reducible assumption, by with_reducible assumption, by with_reducible assumption, by with_reducible assumption⟩ (fun hHeld => ?_)
    clear hK K
    try simp only [Act.put, List.setIfInBounds_toArray, List.set_cons_zero, List.set_cons_succ]
    refine wpAnyH_take (i := 6) (oi := ?oi13_6) (v := ?vv13_6) ?hi13_6 (by kernel_rfl) (by kernel_rfl) (by kernel_rfl) ?hq13_6 ?hy13_6 hHeld ?rest13_6
    case hi13_6 => (simp only [List.getElem?_toArray, List.getElem?_cons_succ, List.getElem?_cons_zero]; rfl)
    case hq13_6 => exact fun _ _ _ h => h
    case hy13_6 =>
      refine Or.inl ⟨by rfl, ?_⟩
      intro wS hSw
      try dsimp only at hSw
      obtain ⟨q0, q1, q2, q3⟩ := hSw
      go_simp
      try with_reducible rfl
    simp only [Act.put, List.setIfInBounds_toArray, List.set_cons_zero, List.set_cons_succ]
    refine wpAnyH_take (i := 7) (oi := ?oi14_7) (v := ?vv14_7) ?hi14_7 (by kernel_rfl) (by kernel_rfl) (by kernel_rfl) ?hq14_7 ?hy14_7 hHeld ?rest14_7
    case hi14_7 => (simp only [List.getElem?_toArray, List.getElem?_cons_succ, List.getElem?_cons_zero]; rfl)
    case hq14_7 => exact fun _ _ _ h => h
    case hy14_7 =>
      refine Or.inl ⟨by rfl, ?_⟩
      intro wS hSw
      try dsimp only at hSw
      obtain ⟨q0, q1, q2, q3⟩ := hSw
      go_simp
      try with_reducible rfl
    simp only [Act.put, List.setIfInBounds_toArray, List.set_cons_zero, List.set_cons_succ]
    refine wpAnyH_take (i := 8) (oi := ?oi15_8) (v := ?vv15_8) ?hi15_8 (by kernel_rfl) (by kernel_rfl) (by kernel_rfl) ?hq15_8 ?hy15_8 hHeld ?rest15_8
    case hi15_8 => (simp only [List.getElem?_toArray, List.getElem?_cons_succ, List.getElem?_cons_zero]; rfl)
    case hq15_8 => exact fun _ _ _ h => h
    case hy15_8 =>
      refine Or.inl ⟨by rfl, ?_⟩
      intro wS hSw
      try dsimp only at hSw
      obtain ⟨q0, q1, q2, q3⟩ := hSw
      go_simp
      try with_reducible rfl
    simp only [Act.put, List.setIfInBounds_toArray, List.set_cons_zero, List.set_cons_succ]
    refine wpAnyH_take (i := 9) (oi := ?oi16_9) (v := ?vv16_9) ?hi16_9 (by kernel_rfl) (by kernel_rfl) (by kernel_rfl) ?hq16_9 ?hy16_9 hHeld ?rest16_9
    case hi16_9 => (simp only [List.getElem?_toArray, List.getElem?_cons_succ, List.getElem?_cons_zero]; rfl)
    case hq16_9 => exact fun _ _ _ h => h
    case hy16_9 =>
      refine Or.inl ⟨by rfl, ?_⟩
      intro wS hSw
      try dsimp only at hSw
      obtain ⟨q0, q1, q2, q3⟩ := hSw
      go_simp
      try with_reducible rfl
    simp only [Act.put, List.setIfInBounds_toArray, List.set_cons_zero, List.set_cons_succ]
    refine wpAnyH_take (i := 10) (oi := ?oi17_10) (v := ?vv17_10) ?hi17_10 (by kernel_rfl) (by kernel_rfl) (by kernel_rfl) ?hq17_10 ?hy17_10 hHeld ?rest17_10
    case hi17_10 => (simp only [List.getElem?_toArray, List.getElem?_cons_succ, List.getElem?_cons_zero]; rfl)
    case hq17_10 => exact fun _ _ _ h => h
    case hy17_10 =>
      refine Or.inl ⟨by rfl, ?_⟩
      intro wS hSw
      try dsimp only at hSw
      obtain ⟨q0, q1, q2, q3⟩ := hSw
      go_simp
      try with_reducible rfl
    simp only [Act.put, List.setIfInBounds_toArray, List.set_cons_zero, List.set_cons_succ]
    refine wpAnyH_take (i := 11) (oi := ?oi18_11) (v := ?vv18_11) ?hi18_11 (by kernel_rfl) (by kernel_rfl) (by kernel_rfl) ?hq18_11 ?hy18_11 hHeld ?rest18_11
    case hi18_11 => (simp only [List.getElem?_toArray, List.getElem?_cons_succ, List.getElem?_cons_zero]; rfl)
    case hq18_11 => exact fun _ _ _ h => h
    case hy18_11 =>
      refine Or.inl ⟨by rfl, ?_⟩
      intro wS hSw
      try dsimp only at hSw
      obtain ⟨q0, q1, q2, q3⟩ := hSw
      go_simp
      try with_reducible rfl
    simp only [Act.put, List.setIfInBounds_toArray, List.set_cons_zero, List.set_cons_succ]
    refine wpAnyH_take (i := 12) (oi := ?oi19_12) (v := ?vv19_12) ?hi19_12 (by kernel_rfl) (by kernel_rfl) (by kernel_rfl) ?hq19_12 ?hy19_12 hHeld ?rest19_12
    case hi19_12 => (simp only [List.getElem?_toArray, List.getElem?_cons_succ, List.getElem?_cons_zero]; rfl)
    case hq19_12 => exact fun _ _ _ h => h
    case hy19_12 =>
      refine Or.inl ⟨by rfl, ?_⟩
      intro wS hSw
      try dsimp only at hSw
      obtain ⟨q0, q1, q2, q3⟩ := hSw
      go_simp
      try with_reducible rfl
    simp only [Act.put, List.setIfInBounds_toArray, List.set_cons_zero, List.set_cons_succ]
    refine wpAnyH_take (i := 13) (oi := ?oi20_13) (v := ?vv20_13) ?hi20_13 (by kernel_rfl) (by kernel_rfl) (by kernel_rfl) ?hq20_13 ?hy20_13 hHeld ?rest20_13
    case hi20_13 => (simp only [List.getElem?_toArray, List.getElem?_cons_succ, List.getElem?_cons_zero]; rfl)
    case hq20_13 => exact fun _ _ _ h => h
    case hy20_13 =>
      refine Or.inl ⟨by rfl, ?_⟩
      intro wS hSw
      try dsimp only at hSw
      obtain ⟨q0, q1, q2, q3⟩ := hSw
      go_simp
      try with_reducible rfl
    simp only [Act.put, List.setIfInBounds_toArray, List.set_cons_zero, List.set_cons_succ]
    refine wpAnyH_take (i := 14) (oi := ?oi21_14) (v := ?vv21_14) ?hi21_14 (by kernel_rfl) (by kernel_rfl) (by kernel_rfl) ?hq21_14 ?hy21_14 hHeld ?rest21_14
    case hi21_14 => (simp only [List.getElem?_toArray, List.getElem?_cons_succ, List.getElem?_cons_zero]; rfl)
    case hq21_14 => exact fun _ _ _ h => h
    case hy21_14 =>
      refine Or.inl ⟨by rfl, ?_⟩
      intro wS hSw
      try dsimp only at hSw
      obtain ⟨q0, q1, q2, q3⟩ := hSw
      go_simp
      try with_reducible rfl
    simp only [Act.put, List.setIfInBounds_toArray, List.set_cons_zero, List.set_cons_succ]
    refine wpAnyH_take (i := 15) (oi := ?oi22_15) (v := ?vv22_15) ?hi22_15 (by kernel_rfl) (by kernel_rfl) (by kernel_rfl) ?hq22_15 ?hy22_15 hHeld ?rest22_15
    case hi22_15 => (simp only [List.getElem?_toArray, List.getElem?_cons_succ, List.getElem?_cons_zero]; rfl)
    case hq22_15 => exact fun _ _ _ h => h
    case hy22_15 =>
      refine Or.inl ⟨by rfl, ?_⟩
      intro wS hSw
      try dsimp only at hSw
      obtain ⟨q0, q1, q2, q3⟩ := hSw
      go_simp
      try with_reducible rfl
    simp only [Act.put, List.setIfInBounds_toArray, List.set_cons_zero, List.set_cons_succ]
    refine wpAnyH_take (i := 16) (oi := ?oi23_16) (v := ?vv23_16) ?hi23_16 (by kernel_rfl) (by kernel_rfl) (by kernel_rfl) ?hq23_16 ?hy23_16 hHeld ?rest23_16
    case hi23_16 => (simp only [List.getElem?_toArray, List.getElem?_cons_succ, List.getElem?_cons_zero]; rfl)
    case hq23_16 => exact fun _ _ _ h => h
    case hy23_16 =>
      refine Or.inl ⟨by rfl, ?_⟩
      intro wS hSw
      try dsimp only at hSw
      obtain ⟨q0, q1, q2, q3⟩ := hSw
      go_simp
      try with_reducible rfl
    simp only [Act.put, List.setIfInBounds_toArray, List.set_cons_zero, List.set_cons_succ]
    refine wpAnyH_take (i := 17) (oi := ?oi24_17) (v := ?vv24_17) ?hi24_17 (by kernel_rfl) (by kernel_rfl) (by kernel_rfl) ?hq24_17 ?hy24_17 hHeld ?rest24_17
    case hi24_17 => (simp only [List.getElem?_toArray, List.getElem?_cons_succ, List.getElem?_cons_zero]; rfl)
    case hq24_17 => exact fun _ _ _ h => h
    case hy24_17 =>
      refine Or.inl ⟨by rfl, ?_⟩
      intro wS hSw
      try dsimp only at hSw
      obtain ⟨q0, q1, q2, q3⟩ := hSw
      go_simp
      try with_reducible rfl
    simp only [Act.put, List.setIfInBounds_toArray, List.set_cons_zero, List.set_cons_succ]
    refine wpAnyH_take (i := 18) (oi := ?oi25_18) (v := ?vv25_18) ?hi25_18 (by kernel_rfl) (by kernel_rfl) (by kernel_rfl) ?hq25_18 ?hy25_18 hHeld ?rest25_18
    case hi25_18 => (simp only [List.getElem?_toArray, List.getElem?_cons_succ, List.getElem?_cons_zero]; rfl)
    case hq25_18 => exact fun _ _ _ h => h
    case hy25_18 =>
      refine Or.inl ⟨by rfl, ?_⟩
      intro wS hSw
      try dsimp only at hSw
      obtain ⟨q0, q1, q2, q3⟩ := hSw
      go_simp
      try with_reducible rfl
    simp only [Act.put, List.setIfInBounds_toArray, List.set_cons_zero, List.set_cons_succ]
    refine wpAnyH_take (i := 19) (oi := ?oi26_19) (v := ?vv26_19) ?hi26_19 (by kernel_rfl) (by kernel_rfl) (by kernel_rfl) ?hq26_19 ?hy26_19 hHeld ?rest26_19
    case hi26_19 => (simp only [List.getElem?_toArray, List.getElem?_cons_succ, List.getElem?_cons_zero]; rfl)
    case hq26_19 => exact fun _ _ _ h => h
    case hy26_19 =>
      refine Or.inl ⟨by rfl, ?_⟩
      intro wS hSw
      try dsimp only at hSw
      obtain ⟨q0, q1, q2, q3⟩ := hSw
      go_simp
      try with_reducible rfl
    simp only [Act.put, List.setIfInBounds_toArray, List.set_cons_zero, List.set_cons_succ]
    refine wpAnyH_take (i := 20) (oi := ?oi27_20) (v := ?vv27_20) ?hi27_20 (by kernel_rfl) (by kernel_rfl) (by kernel_rfl) ?hq27_20 ?hy27_20 hHeld ?rest27_20
    case hi27_20 => (simp only [List.getElem?_toArray, List.getElem?_cons_succ, List.getElem?_cons_zero]; rfl)
    case hq27_20 => exact fun _ _ _ h => h
    case hy27_20 =>
      refine Or.inl ⟨by rfl, ?_⟩
      intro wS hSw
      try dsimp only at hSw
      obtain ⟨q0, q1, q2, q3⟩ := hSw
      go_simp
      try with_reducible rfl
    simp only [Act.put, List.setIfInBounds_toArray, List.set_cons_zero, List.set_cons_succ]
    refine wpAnyH_take (i := 21) (oi := ?oi28_21) (v := ?vv28_21) ?hi28_21 (by kernel_rfl) (by kernel_rfl) (by kernel_rfl) ?hq28_21 ?hy28_21 hHeld ?rest28_21
    case hi28_21 => (simp only [List.getElem?_toArray, List.getElem?_cons_succ, List.getElem?_cons_zero]; rfl)
    case hq28_21 => exact fun _ _ _ h => h
    case hy28_21 =>
      refine Or.inl ⟨by rfl, ?_⟩
      intro wS hSw
      try dsimp only at hSw
      obtain ⟨q0, q1, q2, q3⟩ := hSw
      go_simp
      try with_reducible rfl
    simp only [Act.put, List.setIfInBounds_toArray, List.set_cons_zero, List.set_cons_succ]
    refine wpAnyH_take (i := 22) (oi := ?oi29_22) (v := ?vv29_22) ?hi29_22 (by kernel_rfl) (by kernel_rfl) (by kernel_rfl) ?hq29_22 ?hy29_22 hHeld ?rest29_22
    case hi29_22 => (simp only [List.getElem?_toArray, List.getElem?_cons_succ, List.getElem?_cons_zero]; rfl)
    case hq29_22 => exact fun _ _ _ h => h
    case hy29_22 =>
      refine Or.inl ⟨by rfl, ?_⟩
      intro wS hSw
      try dsimp only at hSw
      obtain ⟨q0, q1, q2, q3⟩ := hSw
      go_simp
      try with_reducible rfl
    simp only [Act.put, List.setIfInBounds_toArray, List.set_cons_zero, List.set_cons_succ]
    refine wpAnyH_take (i := 23) (oi := ?oi30_23) (v := ?vv30_23) ?hi30_23 (by kernel_rfl) (by kernel_rfl) (by kernel_rfl) ?hq30_23 ?hy30_23 hHeld ?rest30_23
    case hi30_23 => (simp only [List.getElem?_toArray, List.getElem?_cons_succ, List.getElem?_cons_zero]; rfl)
    case hq30_23 => exact fun _ _ _ h => h
    case hy30_23 =>
      refine Or.inl ⟨by rfl, ?_⟩
      intro wS hSw
      try dsimp only at hSw
      obtain ⟨q0, q1, q2, q3⟩ := hSw
      go_simp
      try with_reducible rfl
    simp only [Act.put, List.setIfInBounds_toArray, List.set_cons_zero, List.set_cons_succ]
    refine wpAnyH_take (i := 24) (oi := ?oi31_24) (v := ?vv31_24) ?hi31_24 (by kernel_rfl) (by kernel_rfl) (by kernel_rfl) ?hq31_24 ?hy31_24 hHeld ?rest31_24
    case hi31_24 => (simp only [List.getElem?_toArray, List.getElem?_cons_succ, List.getElem?_cons_zero]; rfl)
    case hq31_24 => exact fun _ _ _ h => h
    case hy31_24 =>
      refine Or.inl ⟨by rfl, ?_⟩
      intro wS hSw
      try dsimp only at hSw
      obtain ⟨q0, q1, q2, q3⟩ := hSw
      go_simp
      try with_reducible rfl
    simp only [Act.put, List.setIfInBounds_toArray, List.set_cons_zero, List.set_cons_succ]
    refine wpAnyH_done (by kernel_rfl) ?_ _
    go_wp2_with fail
    go_ret
    exact ⟨rfl, hF⟩
  · have rA := hp.2 (by rw [e1]; decide)
    rw [e1]
    subst e2
    clear e1 hp HFA
    have bz : nl 0 = 0 := nl_zero
    have HV := hid rA
    obtain ⟨poA, pcA, qoA, qcA, rfl, p1A, p2A, p3A, p4A, -, -⟩ := RW.open rA
    clear rA
    have rA := HV.out
    clear HV
    rw [bz] at *
    have hfB : Fwd w3 (w3.alloc (.cells #[.bool false, .slice poA 0 pcA, .slice qoA 0 qcA] 27)) := (Fwd.refl _).alloc _
    replace kW := kW.fwd hfB
    replace hF := hF.trans hfB
    clear hfB
    skip
    have kA := BlkV.made w3 27 [.bool false, .slice poA 0 pcA, .slice qoA 0 qcA]
    go_upto_region 7 with fail
    generalize (w3.alloc (.cells #[.bool false, .slice poA 0 pcA, .slice qoA 0 qcA] 27)) = w4 at kA kW  hF ⊢
    have ac0 := BlkV.cell kA 0 rfl
    have ac1 := BlkV.cell kA 1 rfl
    have ac2 := BlkV.cell kA 2 rfl
    go_upto_region 8 with fail
    have hct := BlkV.cell kW k ht1
    replace kA := kA.drew
    replace hF := hF.drew
    clear ac0 ac1 ac2
    have ac0 := BlkV.cell kA 0 rfl
    have ac1 := BlkV.cell kA 1 rfl
    have ac2 := BlkV.cell kA 2 rfl
    replace hct : w4.drew.cell? ⟨w1.heap.size + 1, k, none⟩ = some (.string ⟨#[122, 101, 114, 111]⟩) := hct
    refine wp_region_held_drew (S := fun w' => w'.cell? ⟨w3.heap.size, 0, none⟩ = some (.bool false) ∧ w'.cell? ⟨w3.heap.size, 1, none⟩ = some (.slice poA 0 pcA) ∧ w'.cell? ⟨w3.heap.size, 2, none⟩ = some (.slice qoA 0 qcA) ∧ w'.cell? ⟨w1.heap.size + 1, k, none⟩ = some (.string ⟨#[122, 101, 114, 111]⟩)) (by kernel_rfl) ⟨by with_reducible assumption, by with_reducible assumption, by with_reducible assumption, by with_reducible assumption⟩ (fun hHeld => ?_)
    refine wpAnyH_take (i := 0) (oi := ?oi32_0) (v := ?vv32_0) ?hi32_0 (by kernel_rfl) (by kernel_rfl) (by kernel_rfl) ?hq32_0 ?hy32_0 hHeld ?rest32_0
    case hi32_0 => (simp only [List.getElem?_toArray, List.getElem?_cons_succ, List.getElem?_cons_zero]; rfl)
    case hq32_0 => exact fun _ _ _ h => h
    case hy32_0 =>
      refine Or.inl ⟨by rfl, ?_⟩
      intro wS hSw
      try dsimp only at hSw
      obtain ⟨q0, q1, q2, q3⟩ := hSw
      go_simp
      try with_reducible rfl
    simp only [Act.put, List.setIfInBounds_toArray, List.set_cons_zero, List.set_cons_succ]
    refine wpAnyH_take (i := 2) (oi := ?oi33_2) (v := ?vv33_2) ?hi33_2 (by kernel_rfl) (by kernel_rfl) (by kernel_rfl) ?hq33_2 ?hy33_2 hHeld ?rest33_2
    case hi33_2 => (simp only [List.getElem?_toArray, List.getElem?_cons_succ, List.getElem?_cons_zero]; rfl)
    case hq33_2 => exact fun _ _ _ h => h
    case hy33_2 =>
      refine Or.inl ⟨by rfl, ?_⟩
      intro wS hSw
      try dsimp only at hSw
      obtain ⟨q0, q1, q2, q3⟩ := hSw
      go_simp
      try with_reducible rfl
    simp only [Act.put, List.setIfInBounds_toArray, List.set_cons_zero, List.set_cons_succ]
    refine wpAnyH_take (i := 3) (oi := ?oi34_3) (v := ?vv34_3) ?hi34_3 (by kernel_rfl) (by kernel_rfl) (by kernel_rfl) ?hq34_3 ?hy34_3 hHeld ?rest34_3
    case hi34_3 => (simp only [List.getElem?_toArray, List.getElem?_cons_succ, List.getElem?_cons_zero]; rfl)
    case hq34_3 => exact fun _ _ _ h => h
    case hy34_3 =>
      refine Or.inl ⟨by rfl, ?_⟩
      intro wS hSw
      try dsimp only at hSw
      obtain ⟨q0, q1, q2, q3⟩ := hSw
      go_simp
      try with_reducible rfl
    simp only [Act.put, List.setIfInBounds_toArray, List.set_cons_zero, List.set_cons_succ]
    refine wpAnyH_take (i := 4) (oi := ?oi35_4) (v := ?vv35_4) ?hi35_4 (by kernel_rfl) (by kernel_rfl) (by kernel_rfl) ?hq35_4 ?hy35_4 hHeld ?rest35_4
    case hi35_4 => (simp only [List.getElem?_toArray, List.getElem?_cons_succ, List.getElem?_cons_zero]; rfl)
    case hq35_4 => exact fun _ _ _ h => h
    case hy35_4 =>
      refine Or.inl ⟨by rfl, ?_⟩
      intro wS hSw
      try dsimp only at hSw
      obtain ⟨q0, q1, q2, q3⟩ := hSw
      go_simp
      try with_reducible rfl
    simp only [Act.put, List.setIfInBounds_toArray, List.set_cons_zero, List.set_cons_succ]
    refine wpAnyH_take (i := 5) (oi := ?oi36_5) (v := ?vv36_5) ?hi36_5 (by kernel_rfl) (by kernel_rfl) (by kernel_rfl) ?hq36_5 ?hy36_5 hHeld ?rest36_5
    case hi36_5 => (simp only [List.getElem?_toArray, List.getElem?_cons_succ, List.getElem?_cons_zero]; rfl)
    case hq36_5 => exact fun _ _ _ h => h
    case hy36_5 =>
      refine Or.inl ⟨by rfl, ?_⟩
      intro wS hSw
      try dsimp only at hSw
      obtain ⟨q0, q1, q2, q3⟩ := hSw
      go_simp
      try with_reducible rfl
    simp only [Act.put, List.setIfInBounds_toArray, List.set_cons_zero, List.set_cons_succ]
    refine wpAnyH_ready (rs := [1]) (by kernel_rfl) (by simp) ?_
    refine AllReadyH.cons rfl (fun K hK => ?_) AllReadyH.nil
    go_simp
    refine (errWord5 _).mono ?_
    rintro e w5 ⟨rfl, hf5⟩
    have HF0 := hf5
    replace kA := kA.fwd hf5
    replace hF := hF.trans hf5
    clear hf5
    clear ac0 ac1 ac2
    have ac0 := BlkV.cell kA 0 rfl
    have ac1 := BlkV.cell kA 1 rfl
    have ac2 := BlkV.cell kA 2 rfl
    replace hct := HF0.cell hct
    clear HF0
    go_wp2_with fail
    clear hHeld
    refine hK.out _ _ ⟨by with_reducible assumption, by with_reducible assumption, by with_reducible assumption, by with_reducible assumption⟩ (fun hHeld => ?_)
    clear hK K
    try simp only [Act.put, List.setIfInBounds_toArray, List.set_cons_zero, List.set_cons_succ]
    refine wpAnyH_take (i := 6) (oi := ?oi37_6) (v := ?vv37_6) ?hi37_6 (by kernel_rfl) (by kernel_rfl) (by kernel_rfl) ?hq37_6 ?hy37_6 hHeld ?rest37_6
    case hi37_6 => (simp only [List.getElem?_toArray, List.getElem?_cons_succ, List.getElem?_cons_zero]; rfl)
    case hq37_6 => exact fun _ _ _ h => h
    case hy37_6 =>
      refine Or.inl ⟨by rfl, ?_⟩
      intro wS hSw
      try dsimp only at hSw
      obtain ⟨q0, q1, q2, q3⟩ := hSw
      go_simp
      try with_reducible rfl
    simp only [Act.put, List.setIfInBounds_toArray, List.set_cons_zero, List.set_cons_succ]
    refine wpAnyH_take (i := 7) (oi := ?oi38_7) (v := ?vv38_7) ?hi38_7 (by kernel_rfl) (by kernel_rfl) (by kernel_rfl) ?hq38_7 ?hy38_7 hHeld ?rest38_7
    case hi38_7 => (simp only [List.getElem?_toArray, List.getElem?_cons_succ, List.getElem?_cons_zero]; rfl)
    case hq38_7 => exact fun _ _ _ h => h
    case hy38_7 =>
      refine Or.inl ⟨by rfl, ?_⟩
      intro wS hSw
      try dsimp only at hSw
      obtain ⟨q0, q1, q2, q3⟩ := hSw
      go_simp
      try with_reducible rfl
    simp only [Act.put, List.setIfInBounds_toArray, List.set_cons_zero, List.set_cons_succ]
    refine wpAnyH_take (i := 8) (oi := ?oi39_8) (v := ?vv39_8) ?hi39_8 (by kernel_rfl) (by kernel_rfl) (by kernel_rfl) ?hq39_8 ?hy39_8 hHeld ?rest39_8
    case hi39_8 => (simp only [List.getElem?_toArray, List.getElem?_cons_succ, List.getElem?_cons_zero]; rfl)
    case hq39_8 => exact fun _ _ _ h => h
    case hy39_8 =>
      refine Or.inl ⟨by rfl, ?_⟩
      intro wS hSw
      try dsimp only at hSw
      obtain ⟨q0, q1, q2, q3⟩ := hSw
      go_simp
      try with_reducible rfl
    simp only [Act.put, List.setIfInBounds_toArray, List.set_cons_zero, List.set_cons_succ]
    refine wpAnyH_take (i := 9) (oi := ?oi40_9) (v := ?vv40_9) ?hi40_9 (by kernel_rfl) (by kernel_rfl) (by kernel_rfl) ?hq40_9 ?hy40_9 hHeld ?rest40_9
    case hi40_9 => (simp only [List.getElem?_toArray, List.getElem?_cons_succ, List.getElem?_cons_zero]; rfl)
    case hq40_9 => exact fun _ _ _ h => h
    case hy40_9 =>
      refine Or.inl ⟨by rfl, ?_⟩
      intro wS hSw
      try dsimp only at hSw
      obtain ⟨q0, q1, q2, q3⟩ := hSw
      go_simp
      try with_reducible rfl
    simp only [Act.put, List.setIfInBounds_toArray, List.set_cons_zero, List.set_cons_succ]
    refine wpAnyH_take (i := 10) (oi := ?oi41_10) (v := ?vv41_10) ?hi41_10 (by kernel_rfl) (by kernel_rfl) (by kernel_rfl) ?hq41_10 ?hy41_10 hHeld ?rest41_10
    case hi41_10 => (simp only [List.getElem?_toArray, List.getElem?_cons_succ, List.getElem?_cons_zero]; rfl)
    case hq41_10 => exact fun _ _ _ h => h
    case hy41_10 =>
      refine Or.inl ⟨by rfl, ?_⟩
      intro wS hSw
      try dsimp only at hSw
      obtain ⟨q0, q1, q2, q3⟩ := hSw
      go_simp
      try with_reducible rfl
    simp only [Act.put, List.setIfInBounds_toArray, List.set_cons_zero, List.set_cons_succ]
    refine wpAnyH_take (i := 11) (oi := ?oi42_11) (v := ?vv42_11) ?hi42_11 (by kernel_rfl) (by kernel_rfl) (by kernel_rfl) ?hq42_11 ?hy42_11 hHeld ?rest42_11
    case hi42_11 => (simp only [List.getElem?_toArray, List.getElem?_cons_succ, List.getElem?_cons_zero]; rfl)
    case hq42_11 => exact fun _ _ _ h => h
    case hy42_11 =>
      refine Or.inl ⟨by rfl, ?_⟩
      intro wS hSw
      try dsimp only at hSw
      obtain ⟨q0, q1, q2, q3⟩ := hSw
      go_simp
      try with_reducible rfl
    simp only [Act.put, List.setIfInBounds_toArray, List.set_cons_zero, List.set_cons_succ]
    refine wpAnyH_take (i := 12) (oi := ?oi43_12) (v := ?vv43_12) ?hi43_12 (by kernel_rfl) (by kernel_rfl) (by kernel_rfl) ?hq43_12 ?hy43_12 hHeld ?rest43_12
    case hi43_12 => (simp only [List.getElem?_toArray, List.getElem?_cons_succ, List.getElem?_cons_zero]; rfl)
    case hq43_12 => exact fun _ _ _ h => h
    case hy43_12 =>
      refine Or.inl ⟨by rfl, ?_⟩
      intro wS hSw
      try dsimp only at hSw
      obtain ⟨q0, q1, q2, q3⟩ := hSw
      go_simp
      try with_reducible rfl
    simp only [Act.put, List.setIfInBounds_toArray, List.set_cons_zero, List.set_cons_succ]
    refine wpAnyH_take (i := 13) (oi := ?oi44_13) (v := ?vv44_13) ?hi44_13 (by kernel_rfl) (by kernel_rfl) (by kernel_rfl) ?hq44_13 ?hy44_13 hHeld ?rest44_13
    case hi44_13 => (simp only [List.getElem?_toArray, List.getElem?_cons_succ, List.getElem?_cons_zero]; rfl)
    case hq44_13 => exact fun _ _ _ h => h
    case hy44_13 =>
      refine Or.inl ⟨by rfl, ?_⟩
      intro wS hSw
      try dsimp only at hSw
      obtain ⟨q0, q1, q2, q3⟩ := hSw
      go_simp
      try with_reducible rfl
    simp only [Act.put, List.setIfInBounds_toArray, List.set_cons_zero, List.set_cons_succ]
    refine wpAnyH_take (i := 14) (oi := ?oi45_14) (v := ?vv45_14) ?hi45_14 (by kernel_rfl) (by kernel_rfl) (by kernel_rfl) ?hq45_14 ?hy45_14 hHeld ?rest45_14
    case hi45_14 => (simp only [List.getElem?_toArray, List.getElem?_cons_succ, List.getElem?_cons_zero]; rfl)
    case hq45_14 => exact fun _ _ _ h => h
    case hy45_14 =>
      refine Or.inl ⟨by rfl, ?_⟩
      intro wS hSw
      try dsimp only at hSw
      obtain ⟨q0, q1, q2, q3⟩ := hSw
      go_simp
      try with_reducible rfl
    simp only [Act.put, List.setIfInBounds_toArray, List.set_cons_zero, List.set_cons_succ]
    refine wpAnyH_take (i := 15) (oi := ?oi46_15) (v := ?vv46_15) ?hi46_15 (by kernel_rfl) (by kernel_rfl) (by kernel_rfl) ?hq46_15 ?hy46_15 hHeld ?rest46_15
    case hi46_15 => (simp only [List.getElem?_toArray, List.getElem?_cons_succ, List.getElem?_cons_zero]; rfl)
    case hq46_15 => exact fun _ _ _ h => h
    case hy46_15 =>
      refine Or.inl ⟨by rfl, ?_⟩
      intro wS hSw
      try dsimp only at hSw
      obtain ⟨q0, q1, q2, q3⟩ := hSw
      go_simp
      try with_reducible rfl
    simp only [Act.put, List.setIfInBounds_toArray, List.set_cons_zero, List.set_cons_succ]
    refine wpAnyH_take (i := 16) (oi := ?oi47_16) (v := ?vv47_16) ?hi47_16 (by kernel_rfl) (by kernel_rfl) (by kernel_rfl) ?hq47_16 ?hy47_16 hHeld ?rest47_16
    case hi47_16 => (simp only [List.getElem?_toArray, List.getElem?_cons_succ, List.getElem?_cons_zero]; rfl)
    case hq47_16 => exact fun _ _ _ h => h
    case hy47_16 =>
      refine Or.inl ⟨by rfl, ?_⟩
      intro wS hSw
      try dsimp only at hSw
      obtain ⟨q0, q1, q2, q3⟩ := hSw
      go_simp
      try with_reducible rfl
    simp only [Act.put, List.setIfInBounds_toArray, List.set_cons_zero, List.set_cons_succ]
    refine wpAnyH_take (i := 17) (oi := ?oi48_17) (v := ?vv48_17) ?hi48_17 (by kernel_rfl) (by kernel_rfl) (by kernel_rfl) ?hq48_17 ?hy48_17 hHeld ?rest48_17
    case hi48_17 => (simp only [List.getElem?_toArray, List.getElem?_cons_succ, List.getElem?_cons_zero]; rfl)
    case hq48_17 => exact fun _ _ _ h => h
    case hy48_17 =>
      refine Or.inl ⟨by rfl, ?_⟩
      intro wS hSw
      try dsimp only at hSw
      obtain ⟨q0, q1, q2, q3⟩ := hSw
      go_simp
      try with_reducible rfl
    simp only [Act.put, List.setIfInBounds_toArray, List.set_cons_zero, List.set_cons_succ]
    refine wpAnyH_take (i := 18) (oi := ?oi49_18) (v := ?vv49_18) ?hi49_18 (by kernel_rfl) (by kernel_rfl) (by kernel_rfl) ?hq49_18 ?hy49_18 hHeld ?rest49_18
    case hi49_18 => (simp only [List.getElem?_toArray, List.getElem?_cons_succ, List.getElem?_cons_zero]; rfl)
    case hq49_18 => exact fun _ _ _ h => h
    case hy49_18 =>
      refine Or.inl ⟨by rfl, ?_⟩
      intro wS hSw
      try dsimp only at hSw
      obtain ⟨q0, q1, q2, q3⟩ := hSw
      go_simp
      try with_reducible rfl
    simp only [Act.put, List.setIfInBounds_toArray, List.set_cons_zero, List.set_cons_succ]
    refine wpAnyH_take (i := 19) (oi := ?oi50_19) (v := ?vv50_19) ?hi50_19 (by kernel_rfl) (by kernel_rfl) (by kernel_rfl) ?hq50_19 ?hy50_19 hHeld ?rest50_19
    case hi50_19 => (simp only [List.getElem?_toArray, List.getElem?_cons_succ, List.getElem?_cons_zero]; rfl)
    case hq50_19 => exact fun _ _ _ h => h
    case hy50_19 =>
      refine Or.inl ⟨by rfl, ?_⟩
      intro wS hSw
      try dsimp only at hSw
      obtain ⟨q0, q1, q2, q3⟩ := hSw
      go_simp
      try with_reducible rfl
    simp only [Act.put, List.setIfInBounds_toArray, List.set_cons_zero, List.set_cons_succ]
    refine wpAnyH_take (i := 20) (oi := ?oi51_20) (v := ?vv51_20) ?hi51_20 (by kernel_rfl) (by kernel_rfl) (by kernel_rfl) ?hq51_20 ?hy51_20 hHeld ?rest51_20
    case hi51_20 => (simp only [List.getElem?_toArray, List.getElem?_cons_succ, List.getElem?_cons_zero]; rfl)
    case hq51_20 => exact fun _ _ _ h => h
    case hy51_20 =>
      refine Or.inl ⟨by rfl, ?_⟩
      intro wS hSw
      try dsimp only at hSw
      obtain ⟨q0, q1, q2, q3⟩ := hSw
      go_simp
      try with_reducible rfl
    simp only [Act.put, List.setIfInBounds_toArray, List.set_cons_zero, List.set_cons_succ]
    refine wpAnyH_take (i := 21) (oi := ?oi52_21) (v := ?vv52_21) ?hi52_21 (by kernel_rfl) (by kernel_rfl) (by kernel_rfl) ?hq52_21 ?hy52_21 hHeld ?rest52_21
    case hi52_21 => (simp only [List.getElem?_toArray, List.getElem?_cons_succ, List.getElem?_cons_zero]; rfl)
    case hq52_21 => exact fun _ _ _ h => h
    case hy52_21 =>
      refine Or.inl ⟨by rfl, ?_⟩
      intro wS hSw
      try dsimp only at hSw
      obtain ⟨q0, q1, q2, q3⟩ := hSw
      go_simp
      try with_reducible rfl
    simp only [Act.put, List.setIfInBounds_toArray, List.set_cons_zero, List.set_cons_succ]
    refine wpAnyH_take (i := 22) (oi := ?oi53_22) (v := ?vv53_22) ?hi53_22 (by kernel_rfl) (by kernel_rfl) (by kernel_rfl) ?hq53_22 ?hy53_22 hHeld ?rest53_22
    case hi53_22 => (simp only [List.getElem?_toArray, List.getElem?_cons_succ, List.getElem?_cons_zero]; rfl)
    case hq53_22 => exact fun _ _ _ h => h
    case hy53_22 =>
      refine Or.inl ⟨by rfl, ?_⟩
      intro wS hSw
      try dsimp only at hSw
      obtain ⟨q0, q1, q2, q3⟩ := hSw
      go_simp
      try with_reducible rfl
    simp only [Act.put, List.setIfInBounds_toArray, List.set_cons_zero, List.set_cons_succ]
    refine wpAnyH_take (i := 23) (oi := ?oi54_23) (v := ?vv54_23) ?hi54_23 (by kernel_rfl) (by kernel_rfl) (by kernel_rfl) ?hq54_23 ?hy54_23 hHeld ?rest54_23
    case hi54_23 => (simp only [List.getElem?_toArray, List.getElem?_cons_succ, List.getElem?_cons_zero]; rfl)
    case hq54_23 => exact fun _ _ _ h => h
    case hy54_23 =>
      refine Or.inl ⟨by rfl, ?_⟩
      intro wS hSw
      try dsimp only at hSw
      obtain ⟨q0, q1, q2, q3⟩ := hSw
      go_simp
      try with_reducible rfl
    simp only [Act.put, List.setIfInBounds_toArray, List.set_cons_zero, List.set_cons_succ]
    refine wpAnyH_take (i := 24) (oi := ?oi55_24) (v := ?vv55_24) ?hi55_24 (by kernel_rfl) (by kernel_rfl) (by kernel_rfl) ?hq55_24 ?hy55_24 hHeld ?rest55_24
    case hi55_24 => (simp only [List.getElem?_toArray, List.getElem?_cons_succ, List.getElem?_cons_zero]; rfl)
    case hq55_24 => exact fun _ _ _ h => h
    case hy55_24 =>
      refine Or.inl ⟨by rfl, ?_⟩
      intro wS hSw
      try dsimp only at hSw
      obtain ⟨q0, q1, q2, q3⟩ := hSw
      go_simp
      try with_reducible rfl
    simp only [Act.put, List.setIfInBounds_toArray, List.set_cons_zero, List.set_cons_succ]
    refine wpAnyH_done (by kernel_rfl) ?_ _
    go_wp2_with fail
    go_ret
    exact ⟨rfl, hF⟩

end Go.Proofs.YtjkoiocemolcbabDoor
