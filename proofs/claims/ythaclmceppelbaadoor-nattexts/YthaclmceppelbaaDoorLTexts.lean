/- NatTexts: any number is written as the second telling writes it, and read as it was: the law's walk. -/
import Derived.Test.YthaclmceppelbaaDoorT5
namespace Go.Proofs.YthaclmceppelbaaDoor
open Go.RowKit
set_option linter.unusedVariables false

set_option maxHeartbeats 8000000 in
theorem natTexts_walk {w : World} {a : Value} {xa : List Nat} (ha : Arg w a xa) :
    Calls Tryd.prog 6 #[a] w fun e w' => e = .returned (.bool true) ∧ Below w.heap.size w w' := by
  go_enter Tryd.func6, Tryd.ntmps6
  go_wp2_with fail
  refine (known_any _).mono ?_
  rintro e w1 ⟨rfl, hf1⟩
  replace ha := ha.fwd hf1
  have hF := hf1
  go_wp2_with fail
  refine (make_any 30 ha (by omega) (by omega)).mono ?_
  rintro e w2 ⟨vX, rfl, hx, hf2⟩
  have bX := nl_take ha.ok 30
  generalize val (List.take 30 _) = X at hx bX
  replace hF := hF.trans hf2
  clear hf2
  clear ha
  go_wp2_with fail
  refine (text_any hx (by omega)).mono ?_
  rintro e w3 ⟨rfl, hf3⟩
  replace hx := hx.fwd hf3
  replace hF := hF.trans hf3
  clear hf3
  obtain ⟨s, hs⟩ : ∃ s, s = textOf X := ⟨_, rfl⟩
  have hss : s.size ≤ 1000 := by
    rw [hs, show (textOf X).size = (asc (dec X)).length from str_size rfl, len_asc]
    have := len_dec X
    omega
  have HP := hid (fun w => parse_text w X (by omega))
  rw [← hs] at HP ⊢
  have HS := hid hs
  clear hs
  go_wp2_with fail
  refine (HP.out _).mono ?_
  rintro e w4 ⟨vy, hf4, hcase⟩
  replace hx := hx.fwd hf4
  replace hF := hF.trans hf4
  clear hf4
  rcases hcase with ⟨hlen, rfl, hy⟩ | ⟨hlen, rfl, hy⟩
  · go_wp2_with fail
    refine (refText_any hx (by omega)).mono ?_
    rintro e w5 ⟨rfl, hf5⟩
    rw [← HS.out]
    replace hx := hx.fwd hf5
    replace hF := hF.trans hf5
    clear hf5
    go_wp2
    go_ret
    exact ⟨rfl, hF⟩
  · go_wp2_with fail
    refine (refText_any hx (by omega)).mono ?_
    rintro e w5 ⟨rfl, hf5⟩
    rw [← HS.out]
    replace hx := hx.fwd hf5
    replace hy := hy.fwd hf5
    replace hF := hF.trans hf5
    clear hf5
    go_wp2_with fail
    refine (same_true hy hx (by omega) (by omega) rfl).mono ?_
    rintro e wz ⟨rfl, hfz⟩
    replace hF := hF.trans hfz
    go_wp2
    go_ret
    exact ⟨rfl, hF⟩

end Go.Proofs.YthaclmceppelbaaDoor
