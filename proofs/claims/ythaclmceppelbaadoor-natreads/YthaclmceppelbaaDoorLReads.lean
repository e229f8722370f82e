/- NatReads: any text, a number's with a byte turned, with others laid in, is read, or refused, as the second telling does: the law's walk. -/
import Derived.Test.YthaclmceppelbaaDoorT7
import Derived.Test.YthaclmceppelbaaDoorS3
import Derived.Test.YthaclmceppelbaaDoorG2
import Derived.Laws.IdiomStrings
namespace Go.Proofs.YthaclmceppelbaaDoor
open Go.RowKit
set_option linter.unusedVariables false

/-- What '[]byte(s)' leaves: the bytes, in a block of its own. -/
theorem bytes_made (w : World) (s : ByteArray) (cap : Nat) (T : TypeId) (fz : Nat × Nat) (hf : s.size ≤ fz.1) :
    (∀ j (hj : j < s.size), (w.alloc (.cells (bytesRow s cap) T fz)).cell? ⟨w.heap.size, j, none⟩ = some (.int .u8 ((s[j]'hj).toNat : Int)) ∧ (w.alloc (.cells (bytesRow s cap) T fz)).frozen? ⟨w.heap.size, j, none⟩ = false) := by
  intro j hj
  have hg := heap_alloc_new w (.cells (bytesRow s cap) T fz)
  constructor
  · simp only [World.cell?, hg]
    have h := bytesRow_at s cap j hj
    first | exact h | (simp; exact h)
  · simp only [World.frozen?, hg]
    simp; omega

/-- The text of bytes of which one was turned. -/
theorem turned_str (w : World) (s : ByteArray) (g J cap : Nat) (v : Int) (h0 : 0 ≤ v) (h1 : v < 256) (hc : ∀ j (hj : j < s.size), w.cell? ⟨g, j, none⟩ = some (.int .u8 ((s[j]'hj).toNat : Int))) (hJ : J < s.size) :
    ∃ x : ByteArray, x.size = s.size ∧ (convert 49 9 (.slice (some ⟨g, 0, none⟩) s.size cap)).run Tryd.prog (w.setCell ⟨g, J, none⟩ (.int .u8 v)).drew = .ok (.string x) (w.setCell ⟨g, J, none⟩ (.int .u8 v)).drew := by
  have hl : (s.data.toList.set J (UInt8.ofNat v.toNat)).length = s.size := by
    rw [List.length_set, Array.length_toList]; rfl
  refine ⟨⟨(s.data.toList.set J (UInt8.ofNat v.toNat)).toArray⟩, ?_, ?_⟩
  · show (s.data.toList.set J (UInt8.ofNat v.toNat)).toArray.size = _
    rw [List.size_toArray, hl]
  · have h := run_convert_bytes_back (P := Tryd.prog) (w.setCell ⟨g, J, none⟩ (.int .u8 v)).drew 49 9 5 ⟨g, 0, none⟩ cap (s.data.toList.set J (UInt8.ofNat v.toNat)) Tryd.underlying49 Tryd.underlying5 Tryd.underlying9 ?_
    · rwa [hl] at h
    · intro j hj
      rw [hl] at hj
      have ea : (⟨g, 0, none⟩ : Addr).add j = ⟨g, j, none⟩ := by unfold Addr.add; split <;> simp_all
      rw [ea]
      show (w.setCell ⟨g, J, none⟩ (.int .u8 v)).cell? ⟨g, j, none⟩ = _
      by_cases hjJ : j = J
      · subst hjJ
        rw [World.cell?_setCell_same (w := w) (v := .int .u8 v) (h := hc j (by assumption))]
        simp
        omega
      · rw [World.cell?_setCell_other (w := w) (a := ⟨g, J, none⟩) (b := ⟨g, j, none⟩) (v := .int .u8 v) (by intro e; injection e with _ e2 _; exact hjJ e2.symm), hc j (by assumption), List.getElem_set_ne (fun e => hjJ e.symm)]
        rfl

set_option maxHeartbeats 16000000 in
set_option maxRecDepth 20000 in
theorem natReads_walk {w : World} {a : Value} {xa : List Nat} (ha : Arg w a xa) {at' by' : Int} (hat : (Lit.int .i64 at').wf = true) (hby : (Lit.int .u8 by').wf = true) (more : ByteArray) (hmore : more.size ≤ maxLen) (raw : ByteArray) (hraw : raw.size ≤ maxLen) :
    Calls Tryd.prog 7 #[a, .int .i64 at', .int .u8 by', .string more, .string raw] w fun e w' => e = .returned (.bool true) ∧ Below w.heap.size w w' := by
  obtain ⟨ha1, ha2⟩ := bounds_i64 hat
  unfold maxLen at hmore hraw
  clear hat
  by_cases hm : 50 < more.size
  · go_enter Tryd.func7, Tryd.ntmps7
    go_wp2_with fail
    refine (known_any _).mono ?_
    rintro e w1 ⟨rfl, hf1⟩
    go_wp2
    go_ret
    exact ⟨rfl, hf1⟩
  · by_cases hr : 500 < raw.size
    · have hm1 : more.size ≤ 50 := by omega
      go_enter Tryd.func7, Tryd.ntmps7
      go_wp2_with fail
      refine (known_any _).mono ?_
      rintro e w1 ⟨rfl, hf1⟩
      go_wp2
      go_ret
      exact ⟨rfl, hf1⟩
    · have hm1 : more.size ≤ 50 := by omega
      have hr1 : raw.size ≤ 500 := by omega
      clear hm hr
      go_enter Tryd.func7, Tryd.ntmps7
      go_wp2_with fail
      refine (known_any _).mono ?_
      rintro e w1 ⟨rfl, hf1⟩
      replace ha := ha.fwd hf1
      have hF := hf1
      clear hf1
      go_wp2_with fail
      refine (make_any 8 ha (by omega) (by omega)).mono ?_
      rintro e w2 ⟨vX, rfl, hx, hf2⟩
      have bX := nl_take ha.ok 8
      generalize val (List.take 8 _) = X at hx bX
      replace hF := hF.trans hf2
      clear hf2 ha
      go_wp2_with fail
      refine (refText_any hx (by omega)).mono ?_
      rintro e w3 ⟨rfl, hf3⟩
      replace hF := hF.trans hf3
      clear hf3 hx
      have hsz : (textOf X).size ≤ 81 ∧ 0 < (textOf X).size := by
        have h1 : (textOf X).size = (asc (dec X)).length := str_size rfl
        rw [h1, len_asc]
        have := len_dec X
        have h2 := List.length_pos_iff.2 (dec_ne X)
        omega
      generalize textOf X = s at *
      obtain ⟨hs1, hs2⟩ := hsz
      go_wp2_with fail
      rw [show ((s.size : Int) + 1) = ((s.size + 1 : Nat) : Int) by simp]
      refine (within_any _ at' (s.size + 1) (by omega) (by omega) ha1 ha2).mono ?_
      rintro e wz ⟨K, hK, rfl, rfl⟩
      have hcv1 := run_bytes_of_string (P := Tryd.prog) w3 9 49 5 s Tryd.underlying9 Tryd.underlying49 Tryd.underlying5
      go_wp2_with fail
      generalize hcap : grownCap w3 s.size 0 5 = cap at hcv1 ⊢
      have hbm := bytes_made w3 s cap 5 ((bytesRow s cap).size, (bytesRow s cap).size + 1) (by simp [bytesRow])
      have hFB : Fwd w ((w3.alloc (.cells (bytesRow s cap) 5 ((bytesRow s cap).size, (bytesRow s cap).size + 1))).drew) := (hF.alloc _).drew
      have hgB : w3.heap.size < ((w3.alloc (.cells (bytesRow s cap) 5 ((bytesRow s cap).size, (bytesRow s cap).size + 1))).drew).heap.size := by simp
      have hbm2 : ∀ j (hj : j < s.size), ((w3.alloc (.cells (bytesRow s cap) 5 ((bytesRow s cap).size, (bytesRow s cap).size + 1))).drew).cell? ⟨w3.heap.size, j, none⟩ = some (.int .u8 ((s[j]'hj).toNat : Int)) ∧ ((w3.alloc (.cells (bytesRow s cap) 5 ((bytesRow s cap).size, (bytesRow s cap).size + 1))).drew).frozen? ⟨w3.heap.size, j, none⟩ = false := hbm
      clear hcv1 hbm
      generalize (w3.alloc (.cells (bytesRow s cap) 5 ((bytesRow s cap).size, (bytesRow s cap).size + 1))).drew = wB at *
      have hgw : w.heap.size ≤ w3.heap.size := hF.size
      generalize w3.heap.size = gB at *
      clear hF hcap
      refine (within_any _ at' s.size (by omega) (by omega) ha1 ha2).mono ?_
      rintro e wz ⟨J, hJ, rfl, rfl⟩
      obtain ⟨hc1, hc2⟩ := hbm2 J hJ
      have HBM := hid hbm2
      have HFB := hid hFB
      have hJ2 : (J : Int) < s.size := by omega
      clear hbm2 hFB
      obtain ⟨hb1, hb2⟩ := bounds_u8 hby
      obtain ⟨x0, hx0, hcv2⟩ := turned_str wB s gB J cap (((s[J]'hJ).toNat + by') % 256) (by omega) (by omega) (fun j hj => (HBM.out j hj).1) hJ
      have hK2 : (K : Int) ≤ s.size := by omega
      go_wp2_with fail
      go_region
      go_wp2_with fail
      have hset := Only.set gB wB J (.int .u8 (((s[J]'hJ).toNat + by') % 256))
      have hF5 : Fwd w ((wB.setCell ⟨gB, J, none⟩ (.int .u8 (((s[J]'hJ).toNat + by') % 256))).alloc (.cells #[.string x0, .string (s.extract 0 K ++ more ++ s.extract K s.size), .string raw, .string (⟨#[48]⟩ ++ s), .string (s ++ s ++ s ++ s ++ s ++ s), .string ⟨#[]⟩] 9)).drew := ((HFB.out.wrote hset hgw).alloc _).drew
      obtain ⟨cs, hcs⟩ : ∃ cs : List Value, cs = [.string x0, .string (s.extract 0 K ++ more ++ s.extract K s.size), .string raw, .string (⟨#[48]⟩ ++ s), .string (s ++ s ++ s ++ s ++ s ++ s), .string ⟨#[]⟩] := ⟨_, rfl⟩
      have hrow : BlkV ((wB.setCell ⟨gB, J, none⟩ (.int .u8 (((s[J]'hJ).toNat + by') % 256))).alloc (.cells #[.string x0, .string (s.extract 0 K ++ more ++ s.extract K s.size), .string raw, .string (⟨#[48]⟩ ++ s), .string (s ++ s ++ s ++ s ++ s ++ s), .string ⟨#[]⟩] 9)).drew wB.heap.size 9 cs := by
        rw [hcs]
        have h := BlkV.made (wB.setCell ⟨gB, J, none⟩ (.int .u8 (((s[J]'hJ).toNat + by') % 256))) 9 [.string x0, .string (s.extract 0 K ++ more ++ s.extract K s.size), .string raw, .string (⟨#[48]⟩ ++ s), .string (s ++ s ++ s ++ s ++ s ++ s), .string ⟨#[]⟩]
        have e : (wB.setCell ⟨gB, J, none⟩ (.int .u8 (((s[J]'hJ).toNat + by') % 256))).heap.size = wB.heap.size := by simp [World.setCell]
        rw [e] at h
        exact h
      have hall : ∀ k, k < 6 → ∃ x : ByteArray, cs[k]? = some (.string x) ∧ x.size ≤ 1000000 := by
        intro k hk
        rw [hcs]
        rcases k with _ | _ | _ | _ | _ | _ | k
        · exact ⟨_, rfl, by omega⟩
        · exact ⟨_, rfl, by simp only [ByteArray.size_append, ByteArray.size_extract]; omega⟩
        · exact ⟨_, rfl, by omega⟩
        · exact ⟨_, rfl, by simp only [ByteArray.size_append]; show 1 + s.size ≤ _; omega⟩
        · exact ⟨_, rfl, by simp only [ByteArray.size_append]; omega⟩
        · exact ⟨_, rfl, by decide⟩
        · omega
      clear hcs
      have HALL := hid hall
      have HROW := hid (And.intro hrow hF5)
      clear hall hrow hF5 hset hcv2 HBM hc1 hc2
      go_loopw [15] (fun iv wr => ∃ k : Nat, k ≤ 6 ∧ iv = .int .i64 k ∧ BlkV wr wB.heap.size 9 cs ∧ Fwd w wr) (fun iv _ => 6 - (intOf iv).toNat)
      case atStart => exact ⟨0, by omega, rfl, HROW.out.1, HROW.out.2⟩
      case round =>
        obtain ⟨k, hk, rfl, hrow, hfw⟩ := hrel
        by_cases hlt : k < 6
        · obtain ⟨x, hx1, hx2⟩ := HALL.out k hlt
          have hcell := hrow.cell k hx1
          have hk6 : (k : Int) < 6 := by omega
          have bv := nl_parseV (bytesOf x)
          have HX1 := hid hx1
          clear hx1
          go_wp2_with fail
          refine (parse_each _ x hx2).mono ?_
          rintro e w5 ⟨v1, rfl, hv1, hf5⟩
          have hrow5 := hrow.fwd hf5
          have hcell5 := hrow5.cell k HX1.out
          clear hcell hrow
          go_wp2_with fail
          refine (refParse_each _ x hx2).mono ?_
          rintro e w6 ⟨v2, rfl, hv2, hf6⟩
          have hv1' := hv1.fwd hf6
          have hrow6 := hrow5.fwd hf6
          clear hcell5 hrow5 hv1
          generalize parseE (bytesOf x) = pe
          generalize parseV (bytesOf x) = pv at hv1' hv2 bv
          go_wp2_with fail
          refine (same_true hv1' hv2 (by omega) (by omega) rfl).mono ?_
          rintro e w7 ⟨rfl, hf7⟩
          have hrow7 := hrow6.fwd hf7
          go_wp2
          go_roundw
          case rel => exact ⟨k + 1, by omega, by go_num, hrow7, ((hfw.trans hf5).trans hf6).trans hf7⟩
          case measure => simp [intOf] <;> omega
        · go_wp2
          go_ret
          exact ⟨rfl, hfw⟩

end Go.Proofs.YthaclmceppelbaaDoor
