/- Contract of the second telling's Parse. -/
import Derived.Test.YtjkoiocemolcbaaDoorKF
import Derived.Deep.RegionWith
namespace Go.Proofs.YtjkoiocemolcbaaDoor
open Go.RowKit
set_option linter.unusedVariables false

theorem ten_lit (w : World) : Num (w.alloc (.cells #[.int .u32 10] 40)) (.slice (some ⟨w.heap.size, 0, none⟩) 1 1) 10 := by
  have hb := Blk.lit w [10] (Ok.cons (by omega) Ok.nil) #[.int .u32 10] rfl
  have := Blk.rdAll hb 1 (by simp) (le_maxLen (by omega))
  exact this

set_option maxHeartbeats 8000000 in
set_option maxRecDepth 20000 in
theorem refParse_any (w : World) (L : List Nat) (hL : Byt L) (hl : L.length ≤ 1000000000) :
    Calls Tryd.prog 57 #[.string (strOf L)] w fun e w' => ∃ v, Fwd w w' ∧
      ((400 < L.length ∧ e = .returned (.tuple #[v, .int .i64 3]) ∧ Num w' v 0) ∨ (L.length ≤ 400 ∧ isNum L = false ∧ e = .returned (.tuple #[v, .int .i64 4]) ∧ Num w' v 0) ∨
       (L.length ≤ 400 ∧ isNum L = true ∧ e = .returned (.tuple #[v, .int .i64 0]) ∧ Num w' v (tval L))) := by
  obtain ⟨s, hs⟩ : ∃ s, s = strOf L := ⟨_, rfl⟩
  rw [← hs]
  have hd : s.data.toList = L.map UInt8.ofNat := by rw [hs]; rfl
  have hsz : s.size = L.length := str_size hd
  have HB := hid (byte_at hd hL)
  have hs2 : s.size ≤ 1000000000 := by rw [hsz]; exact hl
  clear hs
  by_cases hlong : 400 < s.size
  · have HSZ := hid hsz
    have HLG := hid hlong
    clear hsz hd
    go_enter Tryd.func57, Tryd.ntmps57
    go_wp2
    go_ret2
    exact ⟨_, Fwd.refl _, .inl ⟨by rw [← HSZ.out]; exact HLG.out, rfl, Rd.nil _⟩⟩
  · have hsh : s.size ≤ 400 := by omega
    have HSH := hid hsh
    clear hlong
    by_cases h0 : L = []
    · have hem : s.toList.isEmpty = true := by rw [ByteArray.toList_eq, hd, h0]; rfl
      have HE : Hid (isNum L = false) := hid (by rw [h0]; rfl)
      have HSZ := hid hsz
      clear hd hsz h0
      go_enter Tryd.func57, Tryd.ntmps57
      go_wp2
      go_ret2
      exact ⟨_, Fwd.refl _, .inr (.inl ⟨by rw [← HSZ.out]; exact HSH.out, HE.out, rfl, Rd.nil _⟩)⟩
    · have hem : s.toList.isEmpty = false := by
        rw [ByteArray.toList_eq, hd]
        cases L with
        | nil => exact absurd rfl h0
        | cons x M => rfl
      have hs1 : 0 < s.size := by rw [hsz]; exact List.length_pos_iff.2 h0
      have HSZ := hid hsz
      have HNE : Hid (L.isEmpty = false) := hid (by cases L with | nil => exact absurd rfl h0 | cons x M => rfl)
      clear hsz hd h0
      by_cases hlead : 1 < s.size ∧ (s[0]'hs1).toNat = 48
      · obtain ⟨h1, h2⟩ := hlead
        have h3 : (((s[0]'hs1).toNat : Int) == 48) = true := by simp; omega
        have HE : Hid (isNum L = false) := hid (by
          have e := HB.out 0 hs1
          rw [h2] at e
          unfold isNum
          rw [← e, decide_eq_true (by rw [← HSZ.out]; exact h1)]; simp)
        clear h2
        go_enter Tryd.func57, Tryd.ntmps57
        go_wp2
        go_ret2
        exact ⟨_, Fwd.refl _, .inr (.inl ⟨by rw [← HSZ.out]; exact HSH.out, HE.out, rfl, Rd.nil _⟩)⟩
      · have HE : Hid (isNum L = digs L) := hid (by
          unfold isNum
          rw [HNE.out]
          have : (decide (1 < L.length) && L.getD 0 0 == 48) = false := by
            rw [← HB.out 0 hs1, ← HSZ.out]
            by_cases h1 : 1 < s.size
            · have h2 : (s[0]'hs1).toNat ≠ 48 := fun e => hlead ⟨h1, e⟩
              simp; omega
            · simp; omega
          rw [this]; simp)
        have tail : ∀ (lead : (1 < s.size ∧ (((s[0]'hs1).toNat : Int) == 48) = false) ∨ ¬ 1 < s.size), Calls Tryd.prog 57 #[.string s] w fun e w' => ∃ v, Fwd w w' ∧
            ((400 < L.length ∧ e = .returned (.tuple #[v, .int .i64 3]) ∧ Num w' v 0) ∨ (L.length ≤ 400 ∧ isNum L = false ∧ e = .returned (.tuple #[v, .int .i64 4]) ∧ Num w' v 0) ∨
             (L.length ≤ 400 ∧ isNum L = true ∧ e = .returned (.tuple #[v, .int .i64 0]) ∧ Num w' v (tval L))) := by
          intro lead
          rcases lead with ⟨l1, l2⟩ | l1
          all_goals
            go_enter Tryd.func57, Tryd.ntmps57
            go_wp2
            go_loopw [4, 5] (fun a i wr => ∃ k : Nat, k ≤ s.size ∧ i = .int .i64 k ∧ digs (L.take k) = true ∧ Num wr a (tval (L.take k)) ∧ nl (tval (L.take k)) ≤ 400 ∧ Fwd w wr) (fun _ i _ => s.size - (intOf i).toNat)
            case atStart => exact ⟨0, by omega, rfl, rfl, num_nil _, by rw [List.take_zero, show tval [] = 0 from rfl, nl_zero]; omega, Fwd.refl _⟩
            case round =>
              obtain ⟨k, hk, rfl, hdg, hnum, hnl, hfw⟩ := hrel
              have HD := hid hdg
              clear hdg
              by_cases hlt : k < s.size
              · have HK := hid (HB.out k hlt)
                have hkL : k < L.length := by rw [← HSZ.out]; exact hlt
                by_cases hlo : ((s[k]'hlt).toNat : Int) < 48
                · have HF : Hid (digs L = false) := hid (digs_bad hkL (.inl (by rw [← HK.out]; omega)))
                  go_wp2
                  go_ret2
                  first | exact ⟨_, hfw, .inr (.inl ⟨by rw [← HSZ.out]; exact HSH.out, by rw [HE.out, HF.out], rfl, Rd.nil _⟩)⟩ | exact ⟨hfw, _, .inr (.inl ⟨by rw [← HSZ.out]; exact HSH.out, by rw [HE.out, HF.out], rfl, Rd.nil _⟩)⟩
                · by_cases hhi : (57 : Int) < ((s[k]'hlt).toNat : Int)
                  · have HF : Hid (digs L = false) := hid (digs_bad hkL (.inr (by rw [← HK.out]; omega)))
                    go_wp2
                    go_ret2
                    first | exact ⟨_, hfw, .inr (.inl ⟨by rw [← HSZ.out]; exact HSH.out, by rw [HE.out, HF.out], rfl, Rd.nil _⟩)⟩ | exact ⟨hfw, _, .inr (.inl ⟨by rw [← HSZ.out]; exact HSH.out, by rw [HE.out, HF.out], rfl, Rd.nil _⟩)⟩
                  · have HF : Hid (digs (L.take (k + 1)) = true) := hid (by
                      rw [digs_take_succ L k hkL, HD.out, ← HK.out]
                      simp; omega)
                    have HT := hid (tval_take_succ L k hkL)
                    obtain ⟨d, hd⟩ : ∃ d, d = L.getD k 0 - 48 := ⟨_, rfl⟩
                    rw [← hd] at HT
                    have hdi : ((s[k]'hlt).toNat : Int) - 48 = (d : Int) := by rw [hd, ← HK.out]; omega
                    have hd10 : d < 10 := by rw [hd, ← HK.out]; omega
                    have HN1 := hid (nl_tval (L := L.take (k + 1)) HF.out (k + 1))
                    rw [List.take_take, Nat.min_self] at HN1
                    have HA := hid (((hnum.fwd ((Fwd.refl wr).alloc (.cells #[.int .u32 10] 40))).drew))
                    have HTEN := hid (ten_lit wr).drew
                    have b10 : nl 10 ≤ 1 := nl_one (by omega)
                    have bd : nl d ≤ 1 := nl_one (by omega)
                    have bm := nl_mul (tval (L.take k)) 10
                    have HWW : Hid (IntKind.u64.wrap (IntKind.u8.wrap (d : Int)) = (d : Int)) := hid (by rw [IntKind.wrap_u64, IntKind.wrap_u8]; omega)
                    clear hd
                    go_wp2_with fail
                    go_region_with (first
                      | (go_at_call 87; refine (refAdd_any hm2 ho2 (by omega) (by omega)).mono ?_; rintro e w4 ⟨v4, rfl, h4, hf4⟩)
                      | (go_at_call 45; rw [HWW.out]; refine (refOf_any _ d (by omega)).mono ?_; rintro e w3 ⟨v3, rfl, ho2, hf3⟩; have hm2 := hm1.fwd hf3)
                      | (go_at_call 21; refine (refMul_any HA.out HTEN.out (by omega) (by omega)).mono ?_; rintro e w2 ⟨v2, rfl, hm1, hf2⟩))
                    all_goals (try go_wp2)
                    all_goals go_roundw
                    all_goals first
                      | (show s.size - _ < s.size - _
                         simp [intOf]
                         omega)
                      | (have e1 : tval (L.take k) * 10 + d = tval (L.take (k + 1)) := by rw [HT.out]; omega
                         rw [e1] at h4
                         have h5 := HN1.out
                         have hfa : Fwd w ((wr.alloc (.cells #[.int .u32 10] 40)).drew) := (hfw.alloc _).drew
                         exact ⟨k + 1, by omega, by go_num, HF.out, h4, by omega, ((hfa.trans hf2).trans hf3).trans hf4⟩)
              · have HEQ : Hid (tval (L.take k) = tval L ∧ digs L = true) := hid (by
                  have h := HD.out
                  have e := List.take_of_length_le (l := L) (i := k) (by rw [← HSZ.out]; omega)
                  rw [e] at h ⊢
                  exact ⟨rfl, h⟩)
                go_wp2
                go_ret2
                first | exact ⟨_, hfw, .inr (.inr ⟨by rw [← HSZ.out]; exact HSH.out, by rw [HE.out, HEQ.out.2], rfl, by rw [← HEQ.out.1]; exact hnum⟩)⟩ | exact ⟨hfw, _, .inr (.inr ⟨by rw [← HSZ.out]; exact HSH.out, by rw [HE.out, HEQ.out.2], rfl, by rw [← HEQ.out.1]; exact hnum⟩)⟩
        by_cases h1 : 1 < s.size
        · exact tail (.inl ⟨h1, by have h2 : (s[0]'hs1).toNat ≠ 48 := fun e => hlead ⟨h1, e⟩; simp; omega⟩)
        · exact tail (.inr h1)

end Go.Proofs.YtjkoiocemolcbaaDoor
