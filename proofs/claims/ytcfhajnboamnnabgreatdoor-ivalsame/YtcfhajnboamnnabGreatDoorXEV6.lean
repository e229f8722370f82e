/- A reader of closed calls: what is made or written is what it says. -/
import Derived.Test.YtcfhajnboamnnabGreatDoorXEV5
namespace Go.Ev
open Go.RowKit
set_option linter.unusedVariables false
set_option linter.unusedSimpArgs false

section
variable {M : Dom} {ρ : Env} {w w' : World} {P : Program} {B : Nat} {S S1 : Tr (Bk)} {n : Nat}

theorem Env.with_le (hf : Free ρ n (n + 1)) (g : Nat) (c : Option Nat) : ρ.le (ρ.with n g c) := by
  refine ⟨fun {b p} hb => ?_, fun {b k} hb => ?_⟩
  · simp only [Env.with]
    split
    · rename_i e; subst e; rw [(hf b (by omega) (by omega)).1] at hb; cases hb
    · exact hb
  · simp only [Env.with]
    split
    · rename_i e; subst e; rw [(hf b (by omega) (by omega)).2] at hb; cases hb
    · exact hb

theorem Tn.new (hS : SRel M B ρ w S) (hk : ∀ {b k}, S.get b = some k → b < n) (hf : Free ρ n (n + 1)) {g cap : Nat} {blk : Bk} (hg : B ≤ g)
    (hsub : ∀ {b k}, S1.get b = some k → S.get b = some k) (hnot : ∀ {b k}, S1.get b = some k → ρ.loc b ≠ some g)
    (hfar : ∀ q, q < w.heap.size → q ≠ g → w'.heap[q]? = w.heap[q]?) (hos : w'.os = w.os) (htp : w'.tape = w.tape) (hou : w'.output = w.output) (kp : Kept M.strict w w')
    (hsrc : w.heap.size ≤ g ∨ ∃ b0 k0, S.get b0 = some k0 ∧ ρ.loc b0 = some g) (hblk : blk.rel M (ρ.with n g (some cap)) w' n g) :
    Tn M B ρ w S n (ρ.with n g (some cap)) w' (S1.put n (some blk)) (n + 1) := by
  have hle := Env.with_le hf g (some cap)
  refine ⟨⟨?_, ?_, hS.low kp.size fun q hq hB => hfar q hq (by omega)⟩, by omega, fun b hb => ?_, ⟨hos, htp, hou, fun q hq hn => hfar q hq ?_, kp⟩, ?_, ?_⟩
  · intro b k hb
    rw [Tr.get_put] at hb
    split at hb
    · rename_i e; subst e; obtain rfl := Option.some.inj hb
      exact ⟨g, by simp [Env.with], hg, hblk⟩
    · obtain ⟨p, h1, h2, h3⟩ := hS.at' (hsub hb)
      refine ⟨p, hle.loc h1, h2, h3.mono hle kp (hfar p h3.lt ?_)⟩
      rintro rfl
      exact hnot hb h1
  · intro b b' k k' p hb hb' hp hp'
    rw [Tr.get_put] at hb hb'
    split at hb <;> split at hb'
    · omega
    · rename_i e e'
      simp only [Env.with, if_pos e, if_neg e'] at hp hp'
      obtain rfl := Option.some.inj hp
      exact absurd hp' (hnot hb')
    · rename_i e e'
      simp only [Env.with, if_pos e', if_neg e] at hp hp'
      obtain rfl := Option.some.inj hp'
      exact absurd hp (hnot hb)
    · rename_i e e'
      simp only [Env.with, if_neg e, if_neg e'] at hp hp'
      exact hS.inj (hsub hb) (hsub hb') hp hp'
  · simp only [Env.with]
    have : b ≠ n := by omega
    simp [this]
  · rintro rfl
    rcases hsrc with h | ⟨b0, k0, h1, h2⟩
    · omega
    · exact hn b0 k0 h1 h2
  · intro b k p hb hp
    rw [Tr.get_put] at hb
    split at hb
    · rename_i e; subst e
      simp only [Env.with, if_true] at hp
      obtain rfl := Option.some.inj hp
      exact hsrc
    · rename_i e
      simp only [Env.with, if_neg e] at hp
      exact .inr ⟨b, k, hsub hb, hp⟩
  · intro b k hb
    rw [Tr.get_put] at hb
    split at hb
    · omega
    · have := hk (hsub hb); omega

/-- A slice that is grown, as memory has it. -/
theorem oldsA_ok {ev : Operand → Option (AV)} {ρa : Operand → Value} (he : EvRel M ρ w ev ρa) (hS : SRel M B ρ w S) {sz e : Nat} {x : Operand} {ob : Option (Nat × Cap)} {len : Nat} {olds : List (AC)} (h : oldsA P S sz e (ev x) = some (ob, len, olds)) :
    (ob = none ∧ len = 0 ∧ olds = [] ∧ ρa x = .slice none 0 0) ∨
    ∃ b c k p cap arr, ob = some (b, c) ∧ S.get b = some k ∧ ρ.loc b = some p ∧ B ≤ p ∧ k.cells = olds ∧ k.ty = e ∧ ρa x = .slice (some ⟨p, 0, none⟩) len cap ∧ w.heap[p]? = some (.cells arr e (0, 0)) ∧ arr.size = cap * sz ∧
      len ≤ cap ∧ cap ≤ maxLen ∧ olds.length = len * sz ∧ rels M ρ w olds (arr.toList.take (len * sz)) ∧ ∀ j u, len * sz ≤ j → arr[j]? = some u → M.strict = true → ∀ x, u ≠ .int .u32 x := by
  unfold oldsA at h
  split at h
  · rename_i b len' c hx
    split at h
    · rename_i k hb
      cases hc : (Nat.beq k.cells.length (len' * sz) && Nat.beq k.ty e) with
      | false => rw [hc] at h; simp at h
      | true =>
        rw [hc] at h
        simp only [cond_true] at h
        simp only [Bool.and_eq_true, beq_nat, decide_eq_true_eq] at hc
        obtain ⟨hc1, hc2⟩ := hc
        obtain ⟨p, cap, hp, hx', h3, h4, h5⟩ := he _ _ hx
        obtain ⟨p', hp', hB, arr, ha, hr, hg0, hg1⟩ := hS.at' hb
        obtain rfl : p = p' := Option.some.inj (hp.symm.trans hp')
        split at h
        · rename_i m
          cases hm : (Nat.beq m len' && !k.grown) with
          | false => rw [hm] at h; simp at h
          | true =>
            rw [hm] at h
            simp only [cond_true, Option.some.injEq, Prod.mk.injEq] at h
            obtain ⟨rfl, rfl, rfl⟩ := h
            simp only [Bool.and_eq_true, beq_nat, decide_eq_true_eq, Bool.not_eq_true'] at hm
            obtain ⟨rfl, hgr⟩ := hm
            simp only at h5
            subst h5
            have has := hg0 hgr
            refine .inr ⟨b, _, k, p, cap, arr, rfl, hb, hp, hB, rfl, hc2, hx', by rw [← hc2]; exact ha, by rw [has, hc1], by omega, h4, hc1, by rw [← hc1]; exact hr, ?_⟩
            intro j u hj hu _
            have := (Array.getElem?_eq_some_iff.1 hu).1
            omega
        · cases hm : (k.grown && Nat.beq k.sz sz) with
          | false => rw [hm] at h; simp at h
          | true =>
            rw [hm] at h
            simp only [cond_true, Option.some.injEq, Prod.mk.injEq] at h
            obtain ⟨rfl, rfl, rfl⟩ := h
            simp only [Bool.and_eq_true, beq_nat, decide_eq_true_eq] at hm
            obtain ⟨hgr, hsz⟩ := hm
            obtain ⟨c', hc', hs', hbe⟩ := hg1 hgr
            obtain ⟨h5, _⟩ := h5
            obtain rfl : cap = c' := Option.some.inj (h5.symm.trans hc')
            refine .inr ⟨b, _, k, p, cap, arr, rfl, hb, hp, hB, rfl, hc2, hx', by rw [← hc2]; exact ha, by rw [hs', hsz], h3, h4, hc1, by rw [← hc1]; exact hr, ?_⟩
            rw [← hc1]; exact hbe
        · cases h
    · cases h
  · rename_i hx
    simp only [Option.some.injEq, Prod.mk.injEq] at h
    obtain ⟨rfl, rfl, rfl⟩ := h
    exact .inl ⟨rfl, rfl, rfl, (he _ _ hx).1⟩
  · cases h

theorem newsA_ok {ev : Operand → Option (AV)} {ρa : Operand → Value} (he : EvRel M ρ w ev ρa) (hS : SRel M B ρ w S) {sz : Nat} {x : Operand} {m : Nat} {news : List (AC)} (h : newsA P S sz (ev x) = some (m, news)) (hm : 0 < m) :
    ∃ a c us, ρa x = .slice (some a) m c ∧ rels M ρ w news us ∧ us.length = m * sz ∧ ∀ j u, us[j]? = some u → w.cell? (a.add j) = some u := by
  unfold newsA at h
  split at h
  · rename_i b off m' c hx
    simp only [Option.map_eq_some_iff, Prod.mk.injEq] at h
    obtain ⟨cs, hcs, rfl, rfl⟩ := h
    obtain ⟨p, us, hp, hr, hl, hra⟩ := rangeA_ok hS hcs
    obtain ⟨p', k, hp', hx', _⟩ := he _ _ hx
    obtain rfl : p = p' := Option.some.inj (hp.symm.trans hp')
    exact ⟨⟨p, off, none⟩, k, us, hx', hr, hl, fun j u hu => by rw [Addr.add_mid]; exact hra j u hu⟩
  · simp only [Option.some.injEq, Prod.mk.injEq] at h
    omega
  · cases h

theorem newsA_zero {ev : Operand → Option (AV)} {ρa : Operand → Value} (he : EvRel M ρ w ev ρa) (hS : SRel M B ρ w S) {sz : Nat} {x : Operand} {news : List (AC)} (h : newsA P S sz (ev x) = some (0, news)) :
    (∃ c, ρa x = .slice none 0 c) ∨ ∃ a c, ρa x = .slice (some a) 0 c := by
  unfold newsA at h
  split at h
  · rename_i b off m' c hx
    simp only [Option.map_eq_some_iff, Prod.mk.injEq] at h
    obtain ⟨cs, hcs, rfl, rfl⟩ := h
    obtain ⟨p', k, hp', hx', _⟩ := he _ _ hx
    exact .inr ⟨_, _, hx'⟩
  · rename_i hx
    exact .inl ⟨0, (he _ _ hx).1⟩
  · cases h

/-- append of nothing. -/
theorem append_none_run {t e : TypeId} {i : TypeInfo} (ty : TypeId) (w : World) (ht : P.underlying t = some (.slice e)) (hi : P.info? e = some i) {base : Option Addr} {len cap : Nat} (hle : len ≤ cap) {x : Value}
    (hx : (∃ c, x = .slice none 0 c) ∨ ∃ a c, x = .slice (some a) 0 c) : (Builtin.append_ #[t, t] ty #[.slice base len cap, x]).run P w = .ok (.slice base len cap) w := by
  rcases hx with ⟨c, rfl⟩ | ⟨a, c, rfl⟩ <;> cases base <;>
    simp [Builtin.append_, run_underlying ht, sizeOf, typeInfo, hi, Builtin.lenOf, hle, Builtin.firstCells, loadCells, loadCellsFrom, storeCells]

theorem appendA_ok {ev : Operand → Option (AV)} {ρa : Operand → Value} (he : EvRel M ρ w ev ρa) (hS : SRel M B ρ w S) (hB : B ≤ w.heap.size) (hk : ∀ {b k}, S.get b = some k → b < n) (ty : TypeId)
    {t : TypeId} {s x : Operand} {av : AV} {dl : Dl} {n' : Nat} (h : appendA P M.strict ev S n t s x = some (av, dl, n')) (hf : Free ρ n n') :
    ∃ v w' ρ', (Builtin.append_ #[t, t] ty #[ρa s, ρa x]).run P w = .ok v w' ∧ av.rel M ρ' w' v ∧ Tn M B ρ w S n ρ' w' (puts S dl) n' := by
  unfold appendA at h
  split at h
  · rename_i e ht
    split at h
    · rename_i i z hi hz
      obtain ⟨i', zv, hi', hzv, hzr⟩ := zeroA_ok hz
      obtain rfl : i = i' := by rw [hi] at hi'; exact Option.some.inj hi'
      split at h
      · rename_i news hn
        have hz0 := newsA_zero (P := P) he hS hn
        split at h
        · rename_i b off len c hs
          simp only [Option.some.injEq, Prod.mk.injEq] at h
          obtain ⟨rfl, rfl, rfl⟩ := h
          have hr := he _ _ hs
          obtain ⟨p, k, hp, hs', hle, h2⟩ := hr
          refine ⟨ρa s, w, ρ, ?_, ?_, Tn.refl hS n hk⟩
          · rw [hs']; exact append_none_run ty w ht hi hle hz0
          · exact he _ _ hs
        · rename_i hs
          simp only [Option.some.injEq, Prod.mk.injEq] at h
          obtain ⟨rfl, rfl, rfl⟩ := h
          have hs' : ρa s = .slice none 0 0 := (he _ _ hs).1
          refine ⟨ρa s, w, ρ, ?_, he _ _ hs, Tn.refl hS n hk⟩
          rw [hs']; exact append_none_run ty w ht hi (Nat.le_refl _) hz0
        · cases h
      · rename_i ob len olds m news _ ho hn
        cases hc : (Nat.beq z.length i.size && Nat.ble 1 i.size && loose1 M.strict z && Nat.ble 1 m && Nat.ble ((len + m) * (i.bytes + 1)) 16777216) with
        | false => rw [hc] at h; simp at h
        | true =>
          rw [hc] at h
          simp only [cond_true, Option.some.injEq, Prod.mk.injEq] at h
          obtain ⟨rfl, rfl, rfl⟩ := h
          simp only [Bool.and_eq_true, Nat.ble_eq, beq_nat, decide_eq_true_eq] at hc
          obtain ⟨⟨⟨⟨c1, c2⟩, c3⟩, c4⟩, c5⟩ := hc
          have hzl := (hzr M ρ w).length
          simp only [Array.length_toList] at hzl
          obtain ⟨a, ca, us, hx', hnr, hnl, hcells⟩ := newsA_ok (P := P) he hS hn c4
          have hloose := loose_zero (hzr M ρ w) c3
          rcases oldsA_ok (P := P) he hS ho with ⟨rfl, rfl, rfl, hs'⟩ | ⟨b, c, k, p, cap0, arr, rfl, hb, hp, hBp, hko, hkt, hs', ha, has, hlc, hcm, hol, hor, hobe⟩
          · obtain ⟨g, cap, cur, w', hrun, h1, h2, h3, h4, h5, h6⟩ := append_full (P := P) ty w ht hi hzv (by omega) (by omega) (old := none) (len := 0) (xs := []) (by simp) rfl hnl hcells hnr.oneCell (by omega) c5
            rcases h6 with ⟨_, hne, _⟩ | ⟨rfl, rfl, hz6⟩
            · cases hne
            · have kp : Kept M.strict w (w.drew.alloc (.cells cur e)) := ⟨(kept_alloc M.strict w.drew _).size, (kept_alloc M.strict w.drew _).cell⟩
              refine ⟨_, _, ρ.with n w.heap.size (some cap), by rw [hs', hx']; exact hrun, ?_, ?_⟩
              · exact ⟨w.heap.size, cap, by simp [Env.with], rfl, h1, h2, by simp [Env.with]⟩
              · refine Tn.new (S1 := S) hS hk hf hB (fun h => h) (fun hb hl => ?_) (fun q hq _ => heap_alloc_old w.drew _ hq) rfl rfl rfl kp (.inl (Nat.le_refl _)) ?_
                · obtain ⟨p, e1, e2, e3⟩ := hS.at' hb
                  rw [e1] at hl
                  have := e3.lt
                  have := Option.some.inj hl
                  omega
                · have hnn := hnr.length
                  refine ⟨cur, h3, ?_, (fun hh => by simp at hh), fun _ => ⟨cap, by simp [Env.with], h4, ?_⟩⟩
                  · simp only [List.nil_append]
                    have : cur.toList.take news.length = us := by
                      rw [← hnn, hnl]
                      simpa using h5
                    rw [this]
                    exact hnr.mono (Env.with_le hf _ _) kp
                  · intro j u hj hu
                    simp only [List.nil_append] at hj
                    exact fun hst => hloose hst u (hz6 j u (by rw [← hnn, hnl] at hj; simpa using hj) hu)
          · have hxl := hor.length
            obtain ⟨g, cap, cur, w', hrun, h1, h2, h3, h4, h5, h6⟩ := append_full (P := P) ty w ht hi hzv (by omega) (by omega) (old := some (p, cap0, arr)) (len := len) (xs := arr.toList.take (len * i.size)) (by omega) ⟨ha, has, hlc, hcm, rfl⟩ hnl hcells hnr.oneCell (by omega) c5
            have hnn := hnr.length
            have hln : (olds ++ news).length = (len + m) * i.size := by rw [List.length_append, hol, ← hnn, hnl, Nat.add_mul]
            have hsub : ∀ {b' k'}, (S.put b none).get b' = some k' → S.get b' = some k' := by
              intro b' k' hb'
              rw [Tr.get_put] at hb'
              split at hb'
              · cases hb'
              · exact hb'
            have hsubne : ∀ {b' k'}, (S.put b none).get b' = some k' → b' ≠ b := by
              intro b' k' hb' e
              subst e
              rw [Tr.get_put, if_pos rfl] at hb'
              cases hb'
            rcases h6 with ⟨arr', hoe, hcur, rfl⟩ | ⟨rfl, rfl, hz6⟩
            · simp only [Option.some.injEq, Prod.mk.injEq] at hoe
              obtain ⟨rfl, rfl, rfl⟩ := hoe
              have hmul : (len + m) * i.size ≤ arr.size := by rw [has]; exact Nat.mul_le_mul_right _ h1
              have hfit : len * i.size + us.length ≤ arr.toList.length := by rw [hnl, Array.length_toList, ← Nat.add_mul]; exact hmul
              have ecur : cur = (spl arr.toList (len * i.size) us).toArray := by rw [← hcur]
              have kp : Kept M.strict w (w.setRow p cur) := by
                rw [ecur]
                exact kept_setRow ha (by simpa using hfit) (fun hst j u hj1 _ hu => hobe j u hj1 hu hst)
              refine ⟨_, _, ρ.with n p (some cap0), by rw [hs', hx']; exact hrun, ?_, ?_⟩
              · exact ⟨p, cap0, by simp [Env.with], rfl, h1, h2, by simp [Env.with]⟩
              · refine Tn.new (S1 := S.put b none) hS hk hf hBp hsub (fun hb' hl => hsubne hb' (hS.inj (hsub hb') hb hl hp)) (fun q _ hq => setRow_other w p q _ hq) rfl rfl rfl kp (.inr ⟨b, k, hb, hp⟩) ?_
                refine ⟨cur, h3, ?_, (fun hh => by simp at hh), fun _ => ⟨cap0, by simp [Env.with], h4, ?_⟩⟩
                · show rels M _ _ (olds ++ news) (cur.toList.take (olds ++ news).length)
                  rw [hln, h5]
                  exact (hor.append hnr).mono (Env.with_le hf _ _) kp
                · intro j u hj hu
                  rw [hln] at hj
                  rw [ecur, List.getElem?_toArray, getElem?_spl hfit, if_neg (by rw [hnl, ← Nat.add_mul]; omega)] at hu
                  exact hobe j u (Nat.le_trans (Nat.mul_le_mul_right _ (by omega)) hj) (by simpa using hu)
            · have kp : Kept M.strict w (w.drew.alloc (.cells cur e)) := ⟨(kept_alloc M.strict w.drew _).size, (kept_alloc M.strict w.drew _).cell⟩
              refine ⟨_, _, ρ.with n w.heap.size (some cap), by rw [hs', hx']; exact hrun, ?_, ?_⟩
              · exact ⟨w.heap.size, cap, by simp [Env.with], rfl, h1, h2, by simp [Env.with]⟩
              · refine Tn.new (S1 := S.put b none) hS hk hf hB hsub (fun hb' hl => ?_) (fun q hq _ => heap_alloc_old w.drew _ hq) rfl rfl rfl kp (.inl (Nat.le_refl _)) ?_
                · obtain ⟨p, e1, e2, e3⟩ := hS.at' (hsub hb')
                  rw [e1] at hl
                  have := e3.lt
                  have := Option.some.inj hl
                  omega
                · refine ⟨cur, h3, ?_, (fun hh => by simp at hh), fun _ => ⟨cap, by simp [Env.with], h4, ?_⟩⟩
                  · show rels M _ _ (olds ++ news) (cur.toList.take (olds ++ news).length)
                    rw [hln, h5]
                    exact (hor.append hnr).mono (Env.with_le hf _ _) kp
                  · intro j u hj hu
                    rw [hln] at hj
                    exact fun hst => hloose hst u (hz6 j u hj hu)
      · cases h
    · cases h
  · cases h
end
end Go.Ev
