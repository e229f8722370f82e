/- Contract of nat's Text. -/
import Derived.Test.YtbkphjmhmfgpgabDoorW7
namespace Go.Proofs.YtbkphjmhmfgpgabDoor
open Go.RowKit
set_option linter.unusedVariables false

/-- trim of a piece of a row: the value itself. -/
theorem trim_row {w : World} {len off g cap : Nat} {pre xs post : List Nat} (hb : Blk w g (pre ++ (xs ++ post))) (hlen : len = xs.length) (hofs : off = pre.length) (hcap : xs.length ≤ cap) (hcm : cap ≤ maxLen) :
    Calls Tryd.prog 31 #[.slice (some ⟨g, off, none⟩) len cap] w fun e w' => e = .returned (.slice (some ⟨g, off, none⟩) (nl (val xs)) (nl (val xs))) ∧ w = w' := by
  subst hlen hofs
  refine (trim_some w g pre.length cap xs hcap hcm (fun i hi => hb.mid i hi)).mono fun e w' h => ⟨?_, h.2.symm⟩
  rw [h.1, tlen_lim hb.okMid]; rfl

theorem take_nl {xs : List Nat} (h : Ok xs) : xs = lim (val xs) ++ xs.drop (nl (val xs)) := by
  have h1 := take_tlen h
  rw [tlen_lim h] at h1
  rw [← h1]; exact (List.take_append_drop _ _).symm

theorem nl_val_le {xs : List Nat} (h : Ok xs) : nl (val xs) ≤ xs.length := by
  have := tlen_le xs xs.length
  rw [tlen_lim h] at this; exact this

/-- string(b) of a row of bytes. -/
theorem toStr (w : World) {len off g cap : Nat} {pre xs post : List Nat} (hb : BlkB w g (pre ++ (xs ++ post))) (hlen : len = xs.length) (hofs : off = pre.length) :
    (convert 57 9 (.slice (some ⟨g, off, none⟩) len cap)).run Tryd.prog w = .ok (.string (strOf xs)) w := by
  subst hlen hofs
  have := run_convert_bytes_arg (P := Tryd.prog) w 57 5 Tryd.underlying57 Tryd.underlying5 g pre.length xs.length cap (xs.map fun x : Nat => (x : Int)) (by simp)
    (fun i hi => by rw [hb.mid i hi]; simp [hi]) 9 Tryd.underlying9
  have e : strOfNums (xs.map fun x : Nat => (x : Int)) = strOf xs := by simp [strOfNums, strOf]
  rw [this, e]

theorem room {n R t d : Nat} (h : n = R * 10 ^ (9 * t) + d) (hR : R ≠ 0) : 9 * t + 9 ≤ 10 * nl n + 9 := by
  have h1 := lt_pow_nl n
  have h2 : 4294967296 ^ nl n ≤ (10 ^ 10) ^ nl n := Nat.pow_le_pow_left (by omega) _
  rw [← Nat.pow_mul] at h2
  have h3 : 1 * 10 ^ (9 * t) ≤ R * 10 ^ (9 * t) := Nat.mul_le_mul_right _ (by omega)
  have h4 : 10 ^ (9 * t) < 10 ^ (10 * nl n) := by omega
  have := (Nat.pow_lt_pow_iff_right (by omega : 1 < 10)).1 h4
  omega

set_option maxHeartbeats 2000000 in
set_option maxRecDepth 10000 in
theorem text_any {w : World} {a : Value} {n : Nat} (ha : Num w a n) (hn : nl n ≤ 10000000) :
    Calls Tryd.prog 21 #[a] w fun e w' => e = .returned (.string (textOf n)) ∧ Fwd w w' := by
  go_enter Tryd.func21, Tryd.ntmps21
  go_wp2_with fail
  refine (clone_any ha (show nl n ≤ _ by omega)).mono ?_
  rintro e w1 ⟨rfl, hb1, hf1⟩
  have HB1 : Hid (Blk w1 w.heap.size ([] ++ (lim n ++ []))) := hid (by simpa using hb1)
  clear hb1
  have hlm : (lim n).length ≤ 10000000 := hn
  go_wp2_with fail
  refine (trim_row HB1.out rfl rfl (Nat.le_refl _) (le_maxLen (by omega))).mono ?_
  rintro e w2 ⟨rfl, rfl⟩
  rw [val_lim]
  by_cases h0 : n = 0
  · have h1 : nl n = 0 := by rw [h0, nl_zero]
    rw [h1]
    have HT : Hid (textOf n = ⟨#[48]⟩) := by show _ = _; rw [h0, textOf, dec_lt (by omega)]; rfl
    go_wp2
    go_ret
    exact ⟨by rw [HT.out]; rfl, hf1⟩
  · have hpos : 0 < nl n := by rw [nl_pos h0]; omega
    have hne : ((nl n : Int) == 0) = false := by simp; omega
    have H0 := hid h0
    clear h0
    go_wp2_with (first | (at_make; refine law_makeB rfl _ _ rfl .i64 .i64 _ _ (10 * nl n + 9) rfl rfl (by omega) (by omega) (by omega) ?_))
    intro w2 hb2 hf2
    have hgb : w.heap.size < w1.heap.size := HB1.out.lt
    have H2 := hid (And.intro hb2 (HB1.out.fwd hf2))
    clear hb2
    go_wp2
    go_loopw [3, 5] (fun rv av wr => ∃ (R t at' : Nat) (D post : List Nat), rv = .slice (some ⟨w.heap.size, 0, none⟩) (nl R) (nl R) ∧ av = .int .i64 at' ∧ at' + 9 * t = 10 * nl n + 9 ∧ nl R ≤ nl n ∧ n = R * 10 ^ (9 * t) + dval D ∧ Dig D ∧ D.length = 9 * t ∧
        Blk wr w.heap.size ([] ++ (lim R ++ post)) ∧ BlkB wr w1.heap.size (List.replicate at' 0 ++ asc D) ∧ Fwd w wr) (fun _ av _ => (intOf av).toNat)
    case atStart => exact ⟨n, 0, 10 * nl n + 9, [], [], rfl, by go_num, by omega, Nat.le_refl _, by simp [dval], (by intro d hd; cases hd), rfl, H2.out.2, by simpa [asc] using H2.out.1, hf1.trans hf2⟩
    case round =>
      obtain ⟨R, t, at', D, post, rfl, rfl, hat, hRn, hval, hD, hDl, hbR, hbD, hfw⟩ := hrel
      have H := hid (And.intro hval (And.intro hD (And.intro hDl (And.intro hbR (And.intro hbD (And.intro hfw hat))))))
      clear hval hD hDl hbR hbD hfw
      by_cases hR : R = 0
      · have hR1 : nl R = 0 := by rw [hR, nl_zero]
        rw [hR1]
        have HR := hid hR
        clear hR hR1
        obtain ⟨q1, q2, q3, q4, q5, q6, q7⟩ := H.out
        have hcv : ∀ cap, (convert 57 9 (.slice (some ⟨w1.heap.size, at', none⟩) (10 * nl n + 9 - at') cap)).run Tryd.prog wr = .ok (.string (strOf (asc D))) wr :=
          fun cap => toStr wr (pre := List.replicate at' 0) (xs := asc D) (post := []) (by simpa using q5) (by simp [asc]; omega) (by simp)
        have hDne : asc D ≠ [] := by
          intro e
          have : D = [] := by simpa [asc] using e
          rw [this] at q1
          rw [HR.out] at q1
          simp [dval] at q1
          exact H0.out q1
        have HT : Hid (strOf ((asc D).dropWhile (· == 48)) = textOf n) := by
          have e : dval D = n := by rw [q1, HR.out]; simp
          show _ = _
          rw [dropWhile_asc, dropZeros_eq D q2 (by rw [e]; exact H0.out), e]; rfl
        have HQ := hid q6
        have hbytD : Byt (asc D) := by
          intro x hx
          simp only [asc, List.mem_map] at hx
          obtain ⟨d, hd, rfl⟩ := hx
          have := q2 d hd; omega
        have hlD : (asc D).length ≤ 1000000000 := by simp [asc]; omega
        have hHD := hid (And.intro hbytD (And.intro hlD hDne))
        have hat2 : at' < 10 * nl n + 9 := by
          have : D.length ≠ 0 := fun e => hDne (by rw [List.eq_nil_of_length_eq_zero e]; rfl)
          omega
        clear q1 q2 q3 q4 q5 q6 q7 hbytD hlD hDne
        go_wp2_with fail
        refine (trimLeft_any wr (asc D) hHD.out.1 hHD.out.2.1 hHD.out.2.2).mono ?_
        rintro e w3 ⟨rfl, hw3⟩
        subst hw3
        rw [HT.out]
        go_wp2
        go_ret
        exact ⟨rfl, HQ.out⟩
      · have hR0 : 0 < nl R := by rw [nl_pos hR]; omega
        have HR := hid hR
        clear hR
        have hlR : (lim R).length ≤ 10000000 := show nl R ≤ _ by omega
        have HLR : Hid ((lim R).length = nl R) := hid rfl
        have hroom : 9 * t + 9 ≤ 10 * nl n + 9 := room H.out.1 HR.out
        have hat9 : 9 ≤ at' := by omega
        go_wp2_with fail
        refine (divideByLimb_any (d := 1000000000) H.out.2.2.2.1 HLR.out.symm rfl (Nat.le_of_eq HLR.out) (le_maxLen (by omega)) (by omega) (by omega) (by omega)).mono ?_
        rintro e w3 ⟨r, zs, rfl, hzl, hbz, hon, hr, hv⟩
        rw [val_lim] at hv
        have HZ := hid (And.intro hzl (And.intro hbz (And.intro hon hv)))
        clear hzl hbz hv hon
        go_wp2_with fail
        refine (trim_row HZ.out.2.1 (by rw [HZ.out.1]; rfl) rfl (by rw [HZ.out.1]; exact Nat.le_of_eq HLR.out) (le_maxLen (by omega))).mono ?_
        rintro e w4 ⟨rfl, rfl⟩
        have HBD : Hid (BlkB w3 w1.heap.size (List.replicate (at' - 9) 0 ++ (List.replicate 9 0 ++ asc D))) := by
          have h5 := H.out.2.2.2.2.1.only HZ.out.2.2.1 (by omega)
          have e5 : List.replicate at' 0 ++ asc D = List.replicate (at' - 9) 0 ++ (List.replicate 9 0 ++ asc D) := by
            rw [← List.append_assoc, List.replicate_append_replicate, show at' - 9 + 9 = at' by omega]
          rw [e5] at h5; exact h5
        have hge : at' ≤ 10 * nl n + 9 := by omega
        go_wp2_with fail
        refine (writeGroup_any HBD.out (by simp; omega) (by simp) (by simp; omega) (le_maxLen (by omega)) (by simp) (by omega)).mono ?_
        rintro e w5 ⟨rfl, D2, hD2, hD2l, hdv2, hb2, hon2⟩
        have HD2 := hid (And.intro hD2 (And.intro hD2l (And.intro hdv2 (And.intro hb2 hon2))))
        clear hD2 hD2l hdv2 hb2 hon2
        go_wp2
        go_roundw
        case rel =>
          obtain ⟨q1, q2, q3, q4, q5, q6, q7⟩ := H.out
          obtain ⟨z1, z2, z3, z4⟩ := HZ.out
          obtain ⟨d1, d2, d3, d4, d5⟩ := HD2.out
          simp only [List.length_replicate] at d2 d3
          have hok : Ok zs := z2.okMid
          have hle : nl (val zs) ≤ nl n := by have := nl_val_le hok; rw [z1] at this; exact Nat.le_trans this hRn
          refine ⟨val zs, t + 1, at' - 9, D2 ++ D, zs.drop (nl (val zs)) ++ post, rfl, by go_num, by omega, hle, ?_, ?_, by rw [List.length_append]; omega, ?_, ?_, ?_⟩
          · rw [dval_append, d3, Nat.mod_eq_of_lt (by omega), q3, q1, z4, show 9 * (t + 1) = 9 * t + 9 by omega, Nat.pow_add]
            have : (10 : Nat) ^ 9 = 1000000000 := rfl
            rw [this]; grind
          · intro d hd
            rcases List.mem_append.1 hd with hd | hd
            · exact d1 d hd
            · exact q2 d hd
          · have h6 := z2.only d5 (by omega)
            have e6 := take_nl hok
            rw [List.nil_append, ← List.append_assoc, ← e6]
            simpa using h6
          · rw [show asc (D2 ++ D) = asc D2 ++ asc D by simp [asc]]; exact d4
          · exact (q6.wrote z3 (Nat.le_refl _)).wrote d5 (by omega)
        case measure => simp [intOf] <;> omega

end Go.Proofs.YtbkphjmhmfgpgabDoor
