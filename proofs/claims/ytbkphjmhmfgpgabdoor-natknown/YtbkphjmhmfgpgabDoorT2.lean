/- Contracts of nat's isNumber and Parse. -/
import Derived.Test.YtbkphjmhmfgpgabDoorT1
namespace Go.Proofs.YtbkphjmhmfgpgabDoor
open Go.RowKit
set_option linter.unusedVariables false

theorem byte_at {s : ByteArray} {L : List Nat} (h : s.data.toList = L.map UInt8.ofNat) (hL : Byt L) (k : Nat) (hk : k < s.size) : (s[k]'hk).toNat = L.getD k 0 := by
  have hl := str_size h
  cases s with
  | mk d =>
    have hk' : k < d.size := hk
    have hkl : k < L.length := by rw [← hl]; exact hk
    have e : d.toList[k]? = some (UInt8.ofNat L[k]) := by
      show (ByteArray.mk d).data.toList[k]? = _
      rw [h, List.getElem?_map, List.getElem?_eq_getElem hkl]; rfl
    have e2 : d[k] = UInt8.ofNat L[k] := by
      rw [Array.getElem?_toList, Array.getElem?_eq_getElem hk'] at e
      exact Option.some.inj e
    have hb := hL L[k] (List.getElem_mem hkl)
    show (d[k]).toNat = _
    rw [e2, UInt8.toNat_ofNat', List.getD_eq_getElem?_getD, List.getElem?_eq_getElem hkl]
    simp; omega

/-- All are digits. -/
def digs (L : List Nat) : Bool := L.all fun x => decide (48 ≤ x) && decide (x ≤ 57)
/-- A text that is a number. -/
def isNum (L : List Nat) : Bool := !L.isEmpty && !(decide (1 < L.length) && L.getD 0 0 == 48) && digs L

theorem digs_take_succ (L : List Nat) (k : Nat) (hk : k < L.length) : digs (L.take (k + 1)) = (digs (L.take k) && (decide (48 ≤ L.getD k 0) && decide (L.getD k 0 ≤ 57))) := by
  unfold digs
  rw [List.take_succ_eq_append_getElem hk, List.all_append]
  simp [List.getD_eq_getElem?_getD, hk]
theorem digs_bad {L : List Nat} {k : Nat} (hk : k < L.length) (h : L.getD k 0 < 48 ∨ 57 < L.getD k 0) : digs L = false := by
  rcases hd : digs L with _ | _
  · rfl
  · exfalso
    unfold digs at hd
    rw [List.all_eq_true] at hd
    have := hd L[k] (List.getElem_mem hk)
    rw [List.getD_eq_getElem?_getD, List.getElem?_eq_getElem hk] at h
    simp at this h
    omega

set_option maxHeartbeats 2000000 in
theorem isNumber_any (w : World) (L : List Nat) (hL : Byt L) (hl : L.length ≤ 1000000000) :
    Calls Tryd.prog 45 #[.string (strOf L)] w fun e w' => e = .returned (.bool (isNum L)) ∧ w' = w := by
  obtain ⟨s, hs⟩ : ∃ s, s = strOf L := ⟨_, rfl⟩
  rw [← hs]
  have hd : s.data.toList = L.map UInt8.ofNat := by rw [hs]; rfl
  have hsz : s.size = L.length := str_size hd
  have HB := hid (byte_at hd hL)
  clear hs
  by_cases h0 : L = []
  · have hem : s.toList.isEmpty = true := by rw [ByteArray.toList_eq, hd, h0]; rfl
    have HE : Hid (isNum L = false) := hid (by rw [h0]; rfl)
    clear hd hsz h0
    go_enter Tryd.func45, Tryd.ntmps45
    go_wp2
    go_ret
    exact ⟨by rw [HE.out]; rfl, rfl⟩
  · have hem : s.toList.isEmpty = false := by
      rw [ByteArray.toList_eq, hd]
      cases L with
      | nil => exact absurd rfl h0
      | cons x M => rfl
    have hs1 : 0 < s.size := by rw [hsz]; exact List.length_pos_iff.2 h0
    have hs2 : s.size ≤ 1000000000 := by rw [hsz]; exact hl
    have HSZ := hid hsz
    have HNE : Hid (L.isEmpty = false) := hid (by cases L with | nil => exact absurd rfl h0 | cons x M => rfl)
    clear hsz hd h0
    by_cases hlead : 1 < s.size ∧ (s[0]'hs1).toNat = 48
    · obtain ⟨h1, h2⟩ := hlead
      have h3 : (((s[0]'hs1).toNat : Int) == 48) = true := by simp; omega
      have HE : Hid (isNum L = false) := hid (by
        have e := HB.out 0 hs1
        rw [h2] at e
        unfold isNum
        rw [← e, decide_eq_true (by rw [← HSZ.out]; exact h1)]; simp)
      clear h2
      go_enter Tryd.func45, Tryd.ntmps45
      go_wp2
      go_ret
      exact ⟨by rw [HE.out]; rfl, rfl⟩
    · have HE : Hid (isNum L = digs L) := hid (by
        unfold isNum
        rw [HNE.out]
        have : (decide (1 < L.length) && L.getD 0 0 == 48) = false := by
          rw [← HB.out 0 hs1, ← HSZ.out]
          by_cases h1 : 1 < s.size
          · have h2 : (s[0]'hs1).toNat ≠ 48 := fun e => hlead ⟨h1, e⟩
            simp; omega
          · simp; omega
        rw [this]; simp)
      have tail : ∀ (lead : (1 < s.size ∧ (((s[0]'hs1).toNat : Int) == 48) = false) ∨ ¬ 1 < s.size), Calls Tryd.prog 45 #[.string s] w fun e w' => e = .returned (.bool (isNum L)) ∧ w' = w := by
        intro lead
        rcases lead with ⟨l1, l2⟩ | l1
        all_goals
          go_enter Tryd.func45, Tryd.ntmps45
          go_wp2
          go_loop [18] (fun i => ∃ k : Nat, k ≤ s.size ∧ i = .int .i64 k ∧ digs (L.take k) = true) (fun i => s.size - (intOf i).toNat)
          case atStart => exact ⟨0, by omega, rfl, rfl⟩
          case round =>
            obtain ⟨k, hk, rfl, hdg⟩ := hrel
            have HD := hid hdg
            clear hdg
            by_cases hlt : k < s.size
            · have HK := hid (HB.out k hlt)
              have hkL : k < L.length := by rw [← HSZ.out]; exact hlt
              by_cases hlo : ((s[k]'hlt).toNat : Int) < 48
              · have HF : Hid (digs L = false) := hid (digs_bad hkL (.inl (by rw [← HK.out]; omega)))
                go_wp2
                go_ret
                exact ⟨by rw [HE.out, HF.out]; rfl, rfl⟩
              · by_cases hhi : (57 : Int) < ((s[k]'hlt).toNat : Int)
                · have HF : Hid (digs L = false) := hid (digs_bad hkL (.inr (by rw [← HK.out]; omega)))
                  go_wp2
                  go_ret
                  exact ⟨by rw [HE.out, HF.out]; rfl, rfl⟩
                · have HF : Hid (digs (L.take (k + 1)) = true) := hid (by
                    rw [digs_take_succ L k hkL, HD.out, ← HK.out]
                    simp; omega)
                  go_wp2
                  go_round
                  case rel => exact ⟨k + 1, by omega, by go_num, HF.out⟩
                  case measure => simp [intOf] <;> omega
            · have HF : Hid (digs L = true) := hid (by
                have h := HD.out
                rwa [List.take_of_length_le (by rw [← HSZ.out]; omega)] at h)
              go_wp2
              go_ret
              exact ⟨by rw [HE.out, HF.out]; rfl, rfl⟩
      by_cases h1 : 1 < s.size
      · exact tail (.inl ⟨h1, by have h2 : (s[0]'hs1).toNat ≠ 48 := fun e => hlead ⟨h1, e⟩; simp; omega⟩)
      · exact tail (.inr h1)

/-- The number that a text of digits says. -/
def tval (L : List Nat) : Nat := dval (L.map (· - 48))

theorem dval_lt {D : List Nat} (h : Dig D) : dval D < 10 ^ D.length := by
  induction D with
  | nil => simp [dval]
  | cons d D ih =>
    have h1 := ih (fun x hx => h x (by simp [hx]))
    have h2 := h d (by simp)
    rw [dval_cons, List.length_cons, Nat.pow_succ]
    have : d * 10 ^ D.length ≤ 9 * 10 ^ D.length := Nat.mul_le_mul_right _ (by omega)
    omega
theorem digs_all {L : List Nat} (h : digs L = true) (k : Nat) (hk : k < L.length) : 48 ≤ L.getD k 0 ∧ L.getD k 0 ≤ 57 := by
  unfold digs at h
  rw [List.all_eq_true] at h
  have := h L[k] (List.getElem_mem hk)
  rw [List.getD_eq_getElem?_getD, List.getElem?_eq_getElem hk]
  simpa using this
theorem digs_dig {L : List Nat} (h : digs L = true) (k : Nat) : Dig ((L.take k).map (· - 48)) := by
  intro d hd
  simp only [List.mem_map] at hd
  obtain ⟨x, hx, rfl⟩ := hd
  unfold digs at h
  rw [List.all_eq_true] at h
  have := h x (List.mem_of_mem_take hx)
  simp at this; omega
theorem tval_take_succ (L : List Nat) (k : Nat) (hk : k < L.length) : tval (L.take (k + 1)) = 10 * tval (L.take k) + (L.getD k 0 - 48) := by
  unfold tval
  rw [List.take_succ_eq_append_getElem hk, List.map_append, List.map_cons, List.map_nil, dval_snoc]
  simp [List.getD_eq_getElem?_getD, hk]
theorem nl_tval {L : List Nat} (h : digs L = true) (k : Nat) : nl (tval (L.take k)) ≤ k := by
  rw [nl_le_iff]
  have h1 := dval_lt (digs_dig h k)
  have h2 : 10 ^ ((L.take k).map (· - 48)).length ≤ 4294967296 ^ k := by
    refine Nat.le_trans (Nat.pow_le_pow_left (show 10 ≤ 4294967296 by omega) _) (Nat.pow_le_pow_right (by omega) ?_)
    simp; omega
  exact Nat.lt_of_lt_of_le h1 h2

set_option maxHeartbeats 2000000 in
theorem parse_any (w : World) (L : List Nat) (hL : Byt L) (hl : L.length ≤ 1000000000) :
    Calls Tryd.prog 19 #[.string (strOf L)] w fun e w' => ∃ v, Fwd w w' ∧
      ((400 < L.length ∧ e = .returned (.tuple #[v, .int .i64 3]) ∧ Num w' v 0) ∨ (L.length ≤ 400 ∧ isNum L = false ∧ e = .returned (.tuple #[v, .int .i64 4]) ∧ Num w' v 0) ∨
       (L.length ≤ 400 ∧ isNum L = true ∧ e = .returned (.tuple #[v, .int .i64 0]) ∧ Num w' v (tval L))) := by
  have HN := hid (fun w => isNumber_any w L hL hl)
  obtain ⟨s, hs⟩ : ∃ s, s = strOf L := ⟨_, rfl⟩
  rw [← hs] at HN ⊢
  have hd : s.data.toList = L.map UInt8.ofNat := by rw [hs]; rfl
  have hsz : s.size = L.length := str_size hd
  have HB := hid (byte_at hd hL)
  have hs2 : s.size ≤ 1000000000 := by rw [hsz]; exact hl
  have HSZ := hid hsz
  clear hs hd hsz
  by_cases hlong : 400 < s.size
  · have HLG := hid hlong
    go_enter Tryd.func19, Tryd.ntmps19
    go_wp2
    go_ret2
    exact ⟨_, Fwd.refl _, .inl ⟨by rw [← HSZ.out]; exact HLG.out, rfl, Rd.nil _⟩⟩
  · have hsh : s.size ≤ 400 := by omega
    have HSH := hid hsh
    clear hlong
    go_enter Tryd.func19, Tryd.ntmps19
    go_wp2_with fail
    refine (HN.out w).mono ?_
    rintro e w1 ⟨rfl, hw⟩
    rw [hw]
    clear hw w1
    rcases hnum : isNum L with _ | _
    · have HNUM := hid hnum
      clear hnum
      go_wp2
      go_ret2
      exact ⟨_, Fwd.refl _, .inr (.inl ⟨by rw [← HSZ.out]; exact HSH.out, HNUM.out, rfl, Rd.nil _⟩)⟩
    · have hdg : digs L = true := by
        unfold isNum at hnum
        simp only [Bool.and_eq_true] at hnum
        exact hnum.2
      have HDG := hid hdg
      have HNUM := hid hnum
      clear hdg hnum
      go_wp2
      go_loopw [4, 14] (fun a i wr => ∃ k : Nat, k ≤ s.size ∧ i = .int .i64 k ∧ Own wr w.heap.size a (lim (tval (L.take k))) ∧ Fwd w wr) (fun _ i _ => s.size - (intOf i).toNat)
      case atStart => exact ⟨0, by omega, rfl, by rw [List.take_zero, show tval [] = 0 from rfl, lim_zero]; exact Own.nil _ _, Fwd.refl _⟩
      case round =>
        obtain ⟨k, hk, rfl, hown, hfw⟩ := hrel
        by_cases hlt : k < s.size
        · have hkL : k < L.length := by rw [← HSZ.out]; exact hlt
          have hx := digs_all HDG.out k hkL
          have hx2 := HB.out k hlt
          rw [← hx2] at hx
          obtain ⟨hx3, hx4⟩ := hx
          have HT := hid (tval_take_succ L k hkL)
          have HDD : Hid (((s[k]'hlt).toNat : Int) - 48 = ((L.getD k 0 - 48 : Nat) : Int)) := hid (by rw [← hx2]; omega)
          have hd10 : L.getD k 0 - 48 < 10 := by rw [← hx2]; omega
          have HD10 := hid hd10
          have hnl := nl_tval HDG.out k
          have HX2 := hid hx2
          clear hx2 hd10
          go_wp2_with fail
          rw [HDD.out]
          refine (appendDigit_any hown (by omega) HD10.out hfw.size).mono ?_
          rintro e w2 ⟨v', rfl, hown2, hb2⟩
          rw [← HT.out] at hown2
          go_wp2
          go_roundw
          case rel => exact ⟨k + 1, by omega, by go_num, hown2, Below.trans hfw hb2⟩
          case measure => simp [intOf] <;> omega
        · have HE : Hid (tval (L.take k) = tval L) := hid (by rw [List.take_of_length_le (by rw [← HSZ.out]; omega)])
          have hn := hown.num
          rw [HE.out] at hn
          go_wp2
          go_ret2
          exact ⟨_, hfw, .inr (.inr ⟨by rw [← HSZ.out]; exact HSH.out, HNUM.out, rfl, hn⟩)⟩

end Go.Proofs.YtbkphjmhmfgpgabDoor
