/- A row that the call itself owns, with room to grow ('Own'); contract of nat's appendDigit. -/
/- Contracts of nat's isNumber and Parse. -/
/- The second telling's trim: its row is the call's own. -/
/- Contract of the second telling's Text. -/
/- A number's text is read as it was: plain mathematics. -/
import Derived.Test.YtcfhajnboamnnabGreatDoorKC
namespace Go.Proofs.YtcfhajnboamnnabGreatDoor
open Go.RowKit
set_option linter.unusedVariables false

/-- The slice v reads as xs and its row, from block base on, is the call's own. -/
def Own (w : World) (base : Nat) (v : Value) (xs : List Nat) : Prop := Ok xs ∧ w.ownsRow base 65 1 v xs.length (cellsOf xs)

theorem Own.rd {w : World} {base : Nat} {v : Value} {xs : List Nat} (h : Own w base v xs) : Rd w v xs := ownsRow_rd h.1 h.2
theorem Own.nil (w : World) (base : Nat) : Own w base (.slice none 0 0) [] := ⟨Ok.nil, World.ownsRow_nil _ _ _ _⟩
theorem Own.at {w : World} {base : Nat} {v : Value} {xs : List Nat} (h : Own w base v xs) (h0 : 0 < xs.length) : ∃ g cap, v = .slice (some ⟨g, 0, none⟩) xs.length cap ∧ base ≤ g ∧ xs.length ≤ cap ∧ cap ≤ maxLen := by
  rcases h.2.2 with ⟨_, e⟩ | ⟨g, cap, cur, e, h1, h2, h3, h4, _⟩
  · omega
  · exact ⟨g, cap, e, h1, h3, h4⟩
theorem Own.parts {w : World} {base : Nat} {v : Value} {xs : List Nat} (h : Own w base v xs) : ∃ ao cap, v = .slice ao xs.length cap ∧ xs.length ≤ cap ∧ cap ≤ maxLen ∧ ∀ g, v.ownBlock = some g → base ≤ g := by
  rcases h.2.2 with ⟨rfl, e⟩ | ⟨g, cap, cur, rfl, h1, h2, h3, h4, _⟩
  · exact ⟨none, 0, by rw [e], by omega, by simp, by simp [Value.ownBlock]⟩
  · exact ⟨_, cap, rfl, h3, h4, by intro g' hg; simp [Value.ownBlock] at hg; omega⟩
theorem Own.cell {w : World} {base g n cap : Nat} {xs : List Nat} (h : Own w base (.slice (some ⟨g, 0, none⟩) n cap) xs) (k : Nat) (hk : k < xs.length) : w.cell? ⟨g, k, none⟩ = some (.int .u32 ((xs.getD k 0 : Nat) : Int)) ∧ w.frozen? ⟨g, k, none⟩ = false := by
  constructor
  · rcases h.rd.2 with ⟨e, _⟩ | ⟨b, off, c, e, _, _, h3, _⟩
    · cases e
    · cases e
      have := h3 k hk
      rwa [Nat.zero_add] at this
  · rcases h.2.2 with ⟨e, _⟩ | ⟨g', cap', cur, e, h1, h2, _⟩
    · cases e
    · cases e
      simp [World.frozen?, h2]
theorem Own.set {w : World} {base g n cap : Nat} {xs : List Nat} (h : Own w base (.slice (some ⟨g, 0, none⟩) n cap) xs) (k : Nat) (x : Nat) (hx : x < 4294967296) : Own (w.setCell ⟨g, k, none⟩ (.int .u32 (x : Int))) base (.slice (some ⟨g, 0, none⟩) n cap) (xs.set k x) := by
  refine ⟨h.1.set k x hx, ?_⟩
  rcases h.2 with ⟨hl, ⟨e, _⟩ | ⟨g', cap', cur, e, h1, h2, h3, h4, h5, h6⟩⟩
  · cases e
  · cases e
    refine ⟨by simp [cellsOf], .inr ⟨g, cap, cur.set! k (.int .u32 (x : Int)), by rw [set_len], h1, ?_, by rw [set_len]; exact h3, h4, by simp [h5], ?_⟩⟩
    · simp only [World.setCell, Array.getElem?_modify, if_true, h2, Option.map_some]
      simp
    · rw [set_len]
      simp only [Array.set!_eq_setIfInBounds, Array.toList_setIfInBounds]
      rw [List.take_set, h6]
      simp [cellsOf, List.map_set]
theorem Own.alloc {w : World} {base : Nat} {v : Value} {xs : List Nat} (h : Own w base v xs) (o : Obj) : Own (w.alloc o) base v xs := ⟨h.1, h.2.alloc o⟩
theorem Own.num {w : World} {base : Nat} {v : Value} {n : Nat} (h : Own w base v (lim n)) : Num w v n := h.rd

/-- append(a, x): one limb more. -/
theorem law_append1 {w : World} {ops : Array Oper} {rest : List Oper} {o : Oper} {a : Act} {Q : Exit → Act → World → Prop} (hgd : o.guard = none) (s x : Operand)
    (ho : o.op = .call { callee := .builtin .append, args := #[s, x], argTypes := #[25, 25] })
    (base : Nat) (v : Value) (xs : List Nat) (hs : a.eval s = v) (hown : Own w base v xs) (g c cap : Nat) (hx : a.eval x = .slice (some ⟨g, 0, none⟩) 1 cap) (hc : c < 4294967296) (hg : w.cell? ⟨g, 0, none⟩ = some (.int .u32 (c : Int)))
    (hlen : xs.length ≤ 1000000000) (hb : base ≤ w.heap.size)
    (h : ∀ v' w', Own w' base v' (xs ++ [c]) → Below base w w' → wpList Tryz.prog ops Q rest (a.put o.dst v') w') :
    wpList Tryz.prog ops Q (o :: rest) a w := by
  obtain ⟨i, hi, hz0, hz1, hz2⟩ := info_parts info_u32
  refine wpList_append_own w hgd s x 25 ho base 65 i (.int .u32 0) 1 4 Tryz.underlying25 hi hz0 hz1 hz2 rfl (by decide) v xs.length (cellsOf xs) hs hown.2 ⟨g, 0, none⟩ 1 cap [.int .u32 (c : Int)] hx (by simp) ?_ ?_
    (le_maxLen (by omega)) (by omega) hb ?_
  · intro j u hj
    cases j with
    | zero => simp at hj; subst hj; exact hg
    | succ j => simp at hj
  · intro u hu; simp at hu; subst hu; rfl
  · intro v' w' ho' hgr hnil
    refine h v' w' ⟨hown.1.append (Ok.cons hc Ok.nil), ?_⟩ (Below.grown (Below.refl _ _) hgr hb (fun k hk => (hown.2.lt k hk).1))
    have e : cellsOf (xs ++ [c]) = cellsOf xs ++ [.int .u32 (c : Int)] := by simp [cellsOf]
    rw [e, List.length_append]
    exact ho'

/-- Limbs as many as the number has are the number's. -/
theorem lim_of_len {zs : List Nat} (hok : Ok zs) (h : zs.length ≤ nl (val zs)) : zs = lim (val zs) := by
  have e := take_nl hok
  rw [List.drop_eq_nil_of_le h, List.append_nil] at e
  exact e

theorem digit_len {n d : Nat} {zs : List Nat} (hok : Ok zs) (hl : zs.length = nl n) (hv : val zs = 10 * n + d) : zs = lim (10 * n + d) := by
  have := lim_of_len hok (by rw [hl, hv]; exact nl_mono (by omega))
  rwa [hv] at this
theorem digit_more {n d c : Nat} {zs : List Nat} (hok : Ok zs) (hl : zs.length = nl n) (hc : 0 < c) (hc2 : c < 4294967296) (hv : val zs + c * 4294967296 ^ nl n = 10 * n + d) : zs ++ [c] = lim (10 * n + d) := by
  have hv2 : val (zs ++ [c]) = 10 * n + d := by
    rw [val_append, hl, ← hv]; simp only [val, Nat.mul_zero, Nat.add_zero]; rw [Nat.mul_comm c]
  have h1 : 4294967296 ^ nl n ≤ 10 * n + d := by
    have : 1 * 4294967296 ^ nl n ≤ c * 4294967296 ^ nl n := Nat.mul_le_mul_right _ hc
    generalize 4294967296 ^ nl n = P at *
    omega
  have h2 : nl n + 1 ≤ nl (10 * n + d) := by
    rcases Nat.lt_or_ge (nl (10 * n + d)) (nl n + 1) with h | h
    · have := (nl_le_iff (10 * n + d) (nl n)).1 (by omega)
      generalize 4294967296 ^ nl n = P at *
      omega
    · exact h
  have := lim_of_len (hok.append (Ok.cons hc2 Ok.nil)) (by rw [hv2, List.length_append, hl]; exact h2)
  rwa [hv2] at this

end Go.Proofs.YtcfhajnboamnnabGreatDoor

namespace Go.Proofs.YtcfhajnboamnnabGreatDoor
open Go.RowKit
set_option linter.unusedVariables false

theorem byte_at {s : ByteArray} {L : List Nat} (h : s.data.toList = L.map UInt8.ofNat) (hL : Byt L) (k : Nat) (hk : k < s.size) : (s[k]'hk).toNat = L.getD k 0 := by
  have hl := str_size h
  cases s with
  | mk d =>
    have hk' : k < d.size := hk
    have hkl : k < L.length := by rw [← hl]; exact hk
    have e : d.toList[k]? = some (UInt8.ofNat L[k]) := by
      show (ByteArray.mk d).data.toList[k]? = _
      rw [h, List.getElem?_map, List.getElem?_eq_getElem hkl]; rfl
    have e2 : d[k] = UInt8.ofNat L[k] := by
      rw [Array.getElem?_toList, Array.getElem?_eq_getElem hk'] at e
      exact Option.some.inj e
    have hb := hL L[k] (List.getElem_mem hkl)
    show (d[k]).toNat = _
    rw [e2, UInt8.toNat_ofNat', List.getD_eq_getElem?_getD, List.getElem?_eq_getElem hkl]
    simp; omega

/-- All are digits. -/
def digs (L : List Nat) : Bool := L.all fun x => decide (48 ≤ x) && decide (x ≤ 57)
/-- A text that is a number. -/
def isNum (L : List Nat) : Bool := !L.isEmpty && !(decide (1 < L.length) && L.getD 0 0 == 48) && digs L

theorem digs_take_succ (L : List Nat) (k : Nat) (hk : k < L.length) : digs (L.take (k + 1)) = (digs (L.take k) && (decide (48 ≤ L.getD k 0) && decide (L.getD k 0 ≤ 57))) := by
  unfold digs
  rw [List.take_succ_eq_append_getElem hk, List.all_append]
  simp [List.getD_eq_getElem?_getD, hk]
theorem digs_bad {L : List Nat} {k : Nat} (hk : k < L.length) (h : L.getD k 0 < 48 ∨ 57 < L.getD k 0) : digs L = false := by
  rcases hd : digs L with _ | _
  · rfl
  · exfalso
    unfold digs at hd
    rw [List.all_eq_true] at hd
    have := hd L[k] (List.getElem_mem hk)
    rw [List.getD_eq_getElem?_getD, List.getElem?_eq_getElem hk] at h
    simp at this h
    omega

/-- The number that a text of digits says. -/
def tval (L : List Nat) : Nat := dval (L.map (· - 48))

theorem dval_lt {D : List Nat} (h : Dig D) : dval D < 10 ^ D.length := by
  induction D with
  | nil => simp [dval]
  | cons d D ih =>
    have h1 := ih (fun x hx => h x (by simp [hx]))
    have h2 := h d (by simp)
    rw [dval_cons, List.length_cons, Nat.pow_succ]
    have : d * 10 ^ D.length ≤ 9 * 10 ^ D.length := Nat.mul_le_mul_right _ (by omega)
    omega
theorem digs_all {L : List Nat} (h : digs L = true) (k : Nat) (hk : k < L.length) : 48 ≤ L.getD k 0 ∧ L.getD k 0 ≤ 57 := by
  unfold digs at h
  rw [List.all_eq_true] at h
  have := h L[k] (List.getElem_mem hk)
  rw [List.getD_eq_getElem?_getD, List.getElem?_eq_getElem hk]
  simpa using this
theorem digs_dig {L : List Nat} (h : digs L = true) (k : Nat) : Dig ((L.take k).map (· - 48)) := by
  intro d hd
  simp only [List.mem_map] at hd
  obtain ⟨x, hx, rfl⟩ := hd
  unfold digs at h
  rw [List.all_eq_true] at h
  have := h x (List.mem_of_mem_take hx)
  simp at this; omega
theorem tval_take_succ (L : List Nat) (k : Nat) (hk : k < L.length) : tval (L.take (k + 1)) = 10 * tval (L.take k) + (L.getD k 0 - 48) := by
  unfold tval
  rw [List.take_succ_eq_append_getElem hk, List.map_append, List.map_cons, List.map_nil, dval_snoc]
  simp [List.getD_eq_getElem?_getD, hk]
theorem nl_tval {L : List Nat} (h : digs L = true) (k : Nat) : nl (tval (L.take k)) ≤ k := by
  rw [nl_le_iff]
  have h1 := dval_lt (digs_dig h k)
  have h2 : 10 ^ ((L.take k).map (· - 48)).length ≤ 4294967296 ^ k := by
    refine Nat.le_trans (Nat.pow_le_pow_left (show 10 ≤ 4294967296 by omega) _) (Nat.pow_le_pow_right (by omega) ?_)
    simp; omega
  exact Nat.lt_of_lt_of_le h1 h2

end Go.Proofs.YtcfhajnboamnnabGreatDoor

namespace Go.Proofs.YtcfhajnboamnnabGreatDoor
open Go.RowKit
set_option linter.unusedVariables false

/-- append([]uint32{}, src...): a new row of the call's own, with what src reads as. -/
theorem law_append0O {w : World} {ops : Array Oper} {rest : List Oper} {o : Oper} {a : Act} {Q : Exit → Act → World → Prop} (hgd : o.guard = none) (s x : Operand)
    (ho : o.op = .call { callee := .builtin .append, args := #[s, x], argTypes := #[25, 25] })
    (g : Nat) (hs : a.eval s = .slice (some ⟨g, 0, none⟩) 0 0) (hg : w.heap[g]? = some (.cells #[] 65 (0, 0)))
    (v : Value) (xs : List Nat) (hx : a.eval x = v) (hv : Arg w v xs) (hlen : xs.length ≤ 1000000000)
    (h : ∀ v' w', Own w' g v' xs → Only g w w' → wpList Tryz.prog ops Q rest (a.put o.dst v') w') :
    wpList Tryz.prog ops Q (o :: rest) a w := by
  have hlt : g < w.heap.size := (Array.getElem?_eq_some_iff.1 hg).1
  have hown := ownsRow_empty w g g (Nat.le_refl _) hg
  obtain ⟨i, hi, hz0, hz1, hz2⟩ := info_parts info_u32
  rcases hv with hv | ⟨rfl, xa, cap, rfl, hcm⟩
  case inr =>
    refine wpList_append_own w hgd s x 25 ho g 65 i (.int .u32 0) 1 4 Tryz.underlying25 hi hz0 hz1 hz2 rfl (by decide) _ 0 [] hs hown xa 0 cap [] hx (by simp) (by simp) (by simp)
      (le_maxLen (by omega)) (by omega) (by omega) ?_
    intro v' w' ho' hgr hnil
    rw [List.nil_append, Nat.zero_add] at ho'
    exact h v' w' ⟨Ok.nil, by simpa [cellsOf] using ho'⟩ hgr
  rcases hv.2 with ⟨rfl, rfl⟩ | ⟨b, off, cap, rfl, h1, h2, h3, h4⟩
  · refine wpList_append_own_none hgd s x 25 ho g 65 i 1 Tryz.underlying25 hi _ 0 [] hs hown hx ?_
    exact h _ w ⟨Ok.nil, hown⟩ (Only.refl _ _)
  · refine wpList_append_own w hgd s x 25 ho g 65 i (.int .u32 0) 1 4 Tryz.underlying25 hi hz0 hz1 hz2 rfl (by decide) _ 0 [] hs hown ⟨b, off, none⟩ xs.length cap (cellsOf xs) hx (by simp [cellsOf]) ?_ ?_
      (le_maxLen (by omega)) (by omega) (by omega) ?_
    · intro j u hj
      have hjl : j < xs.length := by
        rcases Nat.lt_or_ge j xs.length with hlt | hge
        · exact hlt
        · simp [cellsOf, List.getElem?_eq_none hge] at hj
      have := h3 j hjl
      simp [cellsOf, hjl] at hj
      rw [show (⟨b, off, none⟩ : Addr).add j = ⟨b, off + j, none⟩ from by unfold Addr.add; split <;> simp_all, this, ← hj]
      simp [hjl]
    · intro u hu
      simp only [cellsOf, List.mem_map] at hu
      obtain ⟨x, _, rfl⟩ := hu; rfl
    · intro v' w' ho' hgr hnil
      rw [List.nil_append, Nat.zero_add] at ho'
      exact h v' w' ⟨hv.ok, ho'⟩ hgr


set_option maxHeartbeats 2000000 in
theorem refTrim_own {w : World} {v : Value} {xs : List Nat} (hv : Rd w v xs) (hs : xs.length ≤ 100000000) :
    Calls Tryz.prog 104 #[v] w fun e w' => ∃ v', e = .returned v' ∧ Own w' w.heap.size v' (lim (val xs)) ∧ Fwd w w' := by
  have hg : (w.alloc (.cells #[] 65)).heap[w.heap.size]? = some (.cells #[] 65 (0, 0)) := heap_alloc_new w _
  have HG := hid hg
  clear hg
  have hf0 : Fwd w (w.alloc (.cells #[] 65)) := (Fwd.refl w).alloc _
  rcases hv.2 with ⟨rfl, rfl⟩ | ⟨b, off, cap, rfl, h1, h2, h3, h4⟩
  · have HA : Hid (Arg (w.alloc (.cells #[] 65)) (.slice none 0 0) []) := hid (.inl (Rd.nil _))
    go_enter Tryz.func104, Tryz.ntmps104
    go_wp2
    go_loop [3] (fun n => n = .int .i64 0) (fun n => 0)
    case atStart => rfl
    case round =>
      subst hrel
      go_wp2_with (at_builtin; refine law_append0O rfl (.tmp 18) (.tmp 21) rfl w.heap.size rfl HG.out _ [] rfl HA.out (by simp) ?_)
      intro v' w1 hr hon
      go_wp2
      go_ret
      refine ⟨_, rfl, ?_, hf0.wrote hon (Nat.le_refl _)⟩
      rw [show val [] = 0 from rfl, lim_zero]; exact hr
  · unfold maxLen at h2
    have HV := hid hv
    go_enter Tryz.func104, Tryz.ntmps104
    go_wp2
    go_loop [3] (fun n => ∃ k : Nat, k ≤ xs.length ∧ n = .int .i64 k ∧ tlen xs k = tlen xs xs.length) (fun n => (intOf n).toNat)
    case atStart => exact ⟨xs.length, Nat.le_refl _, rfl, rfl⟩
    case round =>
      obtain ⟨k, hk, rfl, he⟩ := hrel
      have HE := hid he
      clear he
      have fin : tlen xs k = k → Hid (Arg (w.alloc (.cells #[] 65)) (.slice (some ⟨b, off, none⟩) k cap) (lim (val xs))) := by
        intro ht
        have e1 := take_tlen HV.out.ok
        rw [← HE.out, ht] at e1
        rw [← e1]
        exact hid (.inl ((HV.out.fwd hf0).front k hk))
      have hll : (lim (val xs)).length ≤ 1000000000 := by
        have := nl_val_le HV.out.ok
        show nl (val xs) ≤ _; omega
      have FIN := hid fin
      clear fin
      cases k with
      | zero =>
        have HA := FIN.out rfl
        go_wp2_with (at_builtin; refine law_append0O rfl (.tmp 18) (.tmp 21) rfl w.heap.size rfl HG.out _ (lim (val xs)) rfl HA.out hll ?_)
        intro v' w1 hr hon
        go_wp2
        go_ret
        exact ⟨_, rfl, hr, hf0.wrote hon (Nat.le_refl _)⟩
      | succ k =>
        have hck := h3 k (by omega)
        obtain ⟨x, hx⟩ : ∃ x, x = xs.getD k 0 := ⟨_, rfl⟩
        rw [← hx] at hck
        have HX := hid hx
        clear hx
        by_cases hx0 : ((x : Int) == 0) = true
        · go_wp2
          go_round
          case rel =>
            refine ⟨k, by omega, rfl, ?_⟩
            rw [← HE.out, tlen, if_pos]
            rw [← HX.out]; simp at hx0; omega
          case measure => simp [intOf]
        · have hx1 : ((x : Int) == 0) = false := by simpa using hx0
          have HA := FIN.out (by rw [tlen, if_neg]; rw [← HX.out]; simp at hx1; omega)
          clear hx0
          go_wp2_with (at_builtin; refine law_append0O rfl (.tmp 18) (.tmp 21) rfl w.heap.size rfl HG.out _ (lim (val xs)) rfl HA.out hll ?_)
          intro v' w1 hr hon
          go_wp2
          go_ret
          exact ⟨_, rfl, hr, hf0.wrote hon (Nat.le_refl _)⟩


theorem Own.lower {w : World} {base b : Nat} {v : Value} {xs : List Nat} (h : Own w base v xs) (hb : b ≤ base) : Own w b v xs := by
  refine ⟨h.1, h.2.1, ?_⟩
  rcases h.2.2 with e | ⟨g, cap, cur, e, h1, h2⟩
  · exact .inl e
  · exact .inr ⟨g, cap, cur, e, by omega, h2⟩

/-- Digits below a number. -/
theorem dec_below (G : Nat) (hG : G ≠ 0) (D : List Nat) (hD : Dig D) : dec (G * 10 ^ D.length + dval D) = dec G ++ D := by
  revert hD
  refine snoc_ind (P := fun D => Dig D → dec (G * 10 ^ D.length + dval D) = dec G ++ D) D ?_ ?_
  · intro _; simp [dval]
  · intro E d ih h
    have hE := ih (fun x hx => h x (by simp [hx]))
    have hd := h d (by simp)
    rw [dval_snoc, List.length_append, List.length_singleton, Nat.pow_succ]
    have hp : 0 < 10 ^ E.length := Nat.pow_pos (by omega)
    have hg : 1 * 10 ^ E.length ≤ G * 10 ^ E.length := Nat.mul_le_mul_right _ (by omega)
    have e : G * (10 ^ E.length * 10) = G * 10 ^ E.length * 10 := by rw [Nat.mul_assoc]
    rw [e]
    generalize G * 10 ^ E.length = Y at *
    have e2 : (Y * 10 + (10 * dval E + d)) / 10 = Y + dval E := by omega
    have e3 : (Y * 10 + (10 * dval E + d)) % 10 = d := by omega
    rw [dec_ge (by omega), e2, e3, hE, List.append_assoc]

end Go.Proofs.YtcfhajnboamnnabGreatDoor

namespace Go.Proofs.YtcfhajnboamnnabGreatDoor
open Go.RowKit
set_option linter.unusedVariables false

theorem BlkB.one (w : World) (x : Nat) (hx : x < 256) (v : Int) (hv : v = (x : Int)) : BlkB (w.alloc (.cells #[.int .u8 v] 5)) w.heap.size ([] ++ ([x] ++ [])) := by
  subst hv
  refine ⟨?_, by intro y hy; simp at hy; omega⟩
  rw [heap_alloc_new]; rfl

theorem strOf_cons (d : Nat) (T : List Nat) : strOf [48 + d] ++ strOf (asc T) = strOf (asc (d :: T)) := by
  apply strOf_of
  rw [ByteArray.data_append, Array.toList_append, strOf_list, strOf_list]
  rfl
theorem strOf_app (T D : List Nat) : strOf (asc T) ++ strOf (asc D) = strOf (asc (T ++ D)) := by
  apply strOf_of
  rw [ByteArray.data_append, Array.toList_append, strOf_list, strOf_list]
  simp [asc]
theorem digits_most {n k : Nat} (h : 10 ^ k ≤ n) : k < 10 * nl n := by
  have h1 := lt_pow_nl n
  have h2 : 4294967296 ^ nl n ≤ 10 ^ (10 * nl n) := by
    rw [Nat.pow_mul]; exact Nat.pow_le_pow_left (by decide) _
  exact (Nat.pow_lt_pow_iff_right (show 1 < 10 by omega)).1 (Nat.lt_of_le_of_lt h (Nat.lt_of_lt_of_le h1 h2))

theorem text_next {n R R' rn : Nat} {D T : List Nat} (hn : n = R * 10 ^ D.length + dval D) (hR : R = R' * 1000000000 + rn) (hrn : rn = dval T) (hT : Dig T) (hD : Dig D) (h9 : R' ≠ 0 → T.length = 9) (h0 : R' = 0 → T = dec rn) (hRne : R ≠ 0) :
    n = R' * 10 ^ (T ++ D).length + dval (T ++ D) ∧ (R' = 0 → n ≠ 0 → T ++ D = dec n) ∧ (n = 0 → T ++ D = []) ∧ 0 < T.length ∧ Dig (T ++ D) ∧ D.length < 10 * nl n := by
  have hp : 0 < 10 ^ D.length := Nat.pow_pos (by omega)
  have hr1 : 1 * 10 ^ D.length ≤ R * 10 ^ D.length := Nat.mul_le_mul_right _ (by omega)
  refine ⟨?_, ?_, by intro e; omega, ?_, ?_, digits_most (by omega)⟩
  · by_cases h : R' = 0
    · subst h
      rw [hn, hR, dval_append, hrn]; simp
    · rw [hn, hR, dval_append, List.length_append, h9 h, hrn, Nat.pow_add]
      have : (10 : Nat) ^ 9 = 1000000000 := rfl
      rw [this]; grind
  · intro h _
    subst h
    have e : rn ≠ 0 := by omega
    rw [h0 rfl, hn, hR, Nat.zero_mul, Nat.zero_add, dec_below rn e D hD]
  · by_cases h : R' = 0
    · rw [h0 h]; exact List.length_pos_iff.2 (dec_ne _)
    · rw [h9 h]; omega
  · intro d hd
    rcases List.mem_append.1 hd with hd | hd
    · exact hT d hd
    · exact hD d hd

theorem digit_next {rn c j : Nat} {T : List Nat} (h : rn = c * 10 ^ j + dval T) (hl : T.length = j) : rn = c / 10 * 10 ^ (j + 1) + dval (c % 10 :: T) := by
  rw [dval_cons, hl, Nat.pow_succ, h]
  have := Nat.div_add_mod c 10
  generalize 10 ^ j = P at *
  have e : c * P = (10 * (c / 10) + c % 10) * P := by rw [this]
  rw [e]; grind
theorem digit_dec {rn c : Nat} {T : List Nat} (hc : c ≠ 0) (h : dec rn = dec c ++ T) : (c / 10 ≠ 0 ∧ dec rn = dec (c / 10) ++ (c % 10 :: T)) ∨ (c / 10 = 0 ∧ c % 10 :: T = dec rn) := by
  by_cases h10 : c < 10
  · right
    refine ⟨by omega, ?_⟩
    rw [h, dec_lt h10, show c % 10 = c by omega]; rfl
  · left
    refine ⟨by omega, ?_⟩
    rw [h, dec_ge h10]; simp

end Go.Proofs.YtcfhajnboamnnabGreatDoor

namespace Go.Proofs.YtcfhajnboamnnabGreatDoor
open Go.RowKit
set_option linter.unusedVariables false

theorem dec_head {n : Nat} (h : n ≠ 0) : (dec n).getD 0 0 ≠ 0 := by
  induction n using Nat.strongRecOn with
  | ind n ih =>
    by_cases h10 : n < 10
    · rw [dec_lt h10]; simpa using h
    · rw [dec_ge h10]
      have h1 := ih (n / 10) (by omega) (by omega)
      have h2 := dec_ne (n / 10)
      rcases hd : dec (n / 10) with _ | ⟨y, ys⟩
      · exact absurd hd h2
      · rw [hd] at h1; simpa using h1
theorem asc_getD (D : List Nat) (i : Nat) (h : i < D.length) : (asc D).getD i 0 = 48 + D.getD i 0 := by
  simp [asc, h]
theorem byt_asc {D : List Nat} (h : Dig D) : Byt (asc D) := by
  intro x hx
  simp only [asc, List.mem_map] at hx
  obtain ⟨d, hd, rfl⟩ := hx
  have := h d hd; omega
theorem digs_asc {D : List Nat} (h : Dig D) : digs (asc D) = true := by
  unfold digs
  rw [List.all_eq_true]
  intro x hx
  simp only [asc, List.mem_map] at hx
  obtain ⟨d, hd, rfl⟩ := hx
  have := h d hd
  simp; omega
theorem tval_asc (D : List Nat) : tval (asc D) = dval D := by
  unfold tval asc
  rw [List.map_map]
  congr 1
  conv => rhs; rw [← List.map_id D]
  apply List.map_congr_left
  intro d _
  simp
theorem len_asc (D : List Nat) : (asc D).length = D.length := by simp [asc]
theorem dec_len_one {n : Nat} (h : n = 0) : (dec n).length = 1 := by subst h; rfl
theorem isNum_dec (n : Nat) : isNum (asc (dec n)) = true := by
  have h1 := dec_ne n
  have h2 := digs_asc (dig_dec n)
  unfold isNum
  rw [h2]
  have hp : 0 < (dec n).length := List.length_pos_iff.2 h1
  have e : (asc (dec n)).isEmpty = false := by
    rw [List.isEmpty_eq_false_iff]
    intro e
    have := congrArg List.length e
    rw [len_asc] at this
    simp at this
    exact h1 this
  rw [e, len_asc, asc_getD _ _ hp]
  by_cases h0 : n = 0
  · rw [dec_len_one h0]; simp
  · have := dec_head h0
    have hne : (48 + (dec n).getD 0 0 == 48) = false := by simp only [beq_eq_false_iff_ne]; omega
    rw [hne]; simp
theorem len_dec (n : Nat) : (dec n).length ≤ 10 * nl n + 1 := by
  by_cases h : n = 0
  · rw [dec_len_one h]; omega
  · have h1 := dec_ne n
    have h2 := dec_head h
    rcases hd : dec n with _ | ⟨y, ys⟩
    · exact absurd hd h1
    · have hv := dval_dec n
      rw [hd, dval_cons] at hv
      rw [hd] at h2
      have hy : 1 ≤ y := by simp at h2; omega
      have h3 : 1 * 10 ^ ys.length ≤ y * 10 ^ ys.length := Nat.mul_le_mul_right _ hy
      have := digits_most (n := n) (k := ys.length) (by omega)
      rw [List.length_cons]; omega

end Go.Proofs.YtcfhajnboamnnabGreatDoor
