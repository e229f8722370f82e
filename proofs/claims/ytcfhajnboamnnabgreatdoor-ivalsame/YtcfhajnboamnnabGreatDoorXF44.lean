/- ival's Mul: of four products the least, the greatest, by the reader upon letters. -/
import Derived.Test.YtcfhajnboamnnabGreatDoorXF43
import Derived.Test.YtcfhajnboamnnabGreatDoorKJ
import Derived.Test.YtcfhajnboamnnabGreatDoorYXFT
namespace Go.Proofs.YtcfhajnboamnnabGreatDoor
open Go.RowKit Go.Ev
set_option linter.unusedVariables false
set_option linter.unusedSimpArgs false

/-- Of four the least, the greatest: the first one of such as are the same. -/
def loI (p0 p1 p2 p3 : Nat) : Nat := joL (joL (joL p0 p1) p2) p3
def hiI (q0 q1 q2 q3 : Nat) : Nat := joH (joH (joH q0 q1) q2) q3
theorem joL_lt {a b : Nat} (ha : a < 18446744073709551616) (hb : b < 18446744073709551616) : joL a b < 18446744073709551616 := by unfold joL; split <;> assumption
theorem joH_lt {a b : Nat} (ha : a < 18446744073709551616) (hb : b < 18446744073709551616) : joH a b < 18446744073709551616 := by unfold joH; split <;> assumption
theorem joL_b {a b : Nat} {l : Bool} (h : decide ((cmpF b a).1 < 0) = l) : joL a b = bif l then b else a := by
  subst h
  unfold joL
  by_cases c : (cmpF b a).1 < 0
  · rw [if_pos c, decide_eq_true c]; rfl
  · rw [if_neg c, decide_eq_false c]; rfl
theorem joH_b {a b : Nat} {l : Bool} (h : decide ((cmpF a b).1 < 0) = l) : joH a b = bif l then b else a := by
  subst h
  unfold joH
  by_cases c : (cmpF a b).1 < 0
  · rw [if_pos c, decide_eq_true c]; rfl
  · rw [if_neg c, decide_eq_false c]; rfl
theorem belowF {f g : Nat} {l : Bool} (hf : f < 18446744073709551616) (hg : g < 18446744073709551616) (h : decide ((cmpF f g).1 < 0) = l) (w : World) : Calls Tryz.prog 91 #[.int .u64 f, .int .u64 g] w fun e w' => e = .returned (.bool l) ∧ Fwd w w' :=
  (below_any f g hf hg).mono fun e w' gg => ⟨by rw [gg.1, h], fwd_is gg.2⟩

def im4D (l1 : Bool) (h1 : Bool) (l2 : Bool) (h2 : Bool) (l3 : Bool) (h3 : Bool) : List (FuncId × Ans) :=
  [(59, ansT [([.one (.atom (.sym 0)), .one (.atom (.sym 2)), .one (.lit (.int .i64 (2)))], .tup [.one (.atom (.sym 4)), .one (.atom (.sym 12))]), ([.one (.atom (.sym 0)), .one (.atom (.sym 2)), .one (.lit (.int .i64 (3)))], .tup [.one (.atom (.sym 5)), .one (.atom (.sym 13))]), ([.one (.atom (.sym 0)), .one (.atom (.sym 3)), .one (.lit (.int .i64 (2)))], .tup [.one (.atom (.sym 6)), .one (.atom (.sym 14))]), ([.one (.atom (.sym 0)), .one (.atom (.sym 3)), .one (.lit (.int .i64 (3)))], .tup [.one (.atom (.sym 7)), .one (.atom (.sym 15))]), ([.one (.atom (.sym 1)), .one (.atom (.sym 2)), .one (.lit (.int .i64 (2)))], .tup [.one (.atom (.sym 8)), .one (.atom (.sym 16))]), ([.one (.atom (.sym 1)), .one (.atom (.sym 2)), .one (.lit (.int .i64 (3)))], .tup [.one (.atom (.sym 9)), .one (.atom (.sym 17))]), ([.one (.atom (.sym 1)), .one (.atom (.sym 3)), .one (.lit (.int .i64 (2)))], .tup [.one (.atom (.sym 10)), .one (.atom (.sym 18))]), ([.one (.atom (.sym 1)), .one (.atom (.sym 3)), .one (.lit (.int .i64 (3)))], .tup [.one (.atom (.sym 11)), .one (.atom (.sym 19))])]),
   (91, ansT [([.one (.atom (.sym 6)), .one (.atom (.sym 4))], .v (.one (.lit (.bool l1)))), ([.one (.atom (.sym 5)), .one (.atom (.sym 7))], .v (.one (.lit (.bool h1)))), ([.one (.atom (.sym 8)), .one (.atom (.sym (bif l1 then 6 else 4)))], .v (.one (.lit (.bool l2)))), ([.one (.atom (.sym (bif h1 then 7 else 5))), .one (.atom (.sym 9))], .v (.one (.lit (.bool h2)))), ([.one (.atom (.sym 10)), .one (.atom (.sym (bif l2 then 8 else (bif l1 then 6 else 4))))], .v (.one (.lit (.bool l3)))), ([.one (.atom (.sym (bif h2 then 9 else (bif h1 then 7 else 5)))), .one (.atom (.sym 11))], .v (.one (.lit (.bool h3))))])]
def im4L (l1 : Bool) (h1 : Bool) (l2 : Bool) (h2 : Bool) (l3 : Bool) (h3 : Bool) : BT := []
def im4M : BT := []
def im4N : At → Option Nat
  | _ => none

set_option maxRecDepth 1000000 in
theorem im4Told : ∃ t : Tr Func, TabOK Tryz.prog t ∧ (∀ (l1 : Bool) (h1 : Bool) (l2 : Bool) (h2 : Bool) (l3 : Bool) (h3 : Bool), isAV (.v (.agg [.atom (.sym (bif l3 then 10 else (bif l2 then 8 else (bif l1 then 6 else 4)))), .atom (.sym (bif h3 then 11 else (bif h2 then 9 else (bif h1 then 7 else 5))))])) (evalCall ⟨Tryz.prog, true, t.get, orcD (im4D l1 h1 l2 h2 l3 h3), (opH (bigHook Tryz.prog true) (opH (symHook Tryz.prog im4N (fun _ _ _ => none)) (tabHook (im4L l1 h1 l2 h2 l3 h3) im4M)))⟩ 1000 26 [.agg [.atom (.sym 0), .atom (.sym 1)], .agg [.atom (.sym 2), .atom (.sym 3)]] .e 0) = true) :=
  ⟨((((((Tr.e).put 26 (some Tryz.f26)).put 48 (some Tryz.f48)).put 82 (some Tryz.f82)).put 53 (some Tryz.f53)).put 59 (some Tryz.f59)).put 91 (some Tryz.f91),
   (TabOK.put (TabOK.put (TabOK.put (TabOK.put (TabOK.put (TabOK.put (TabOK.e _) ⟨Tryz.func26, by decide +kernel, by decide +kernel⟩) ⟨Tryz.func48, by decide +kernel, by decide +kernel⟩) ⟨Tryz.func82, by decide +kernel, by decide +kernel⟩) ⟨Tryz.func53, by decide +kernel, by decide +kernel⟩) ⟨Tryz.func59, by decide +kernel, by decide +kernel⟩) ⟨Tryz.func91, by decide +kernel, by decide +kernel⟩),
   by decide +kernel⟩

set_option maxHeartbeats 4000000 in
set_option maxRecDepth 100000 in
theorem im4_tab {w : World} (hR : Ru w) (a b c d p0 q0 p1 q1 p2 q2 p3 q3 : Nat) (f0 g0 f1 g1 f2 g2 f3 g3 : Int) {l1 h1 l2 h2 l3 h3 : Bool} (p0_ : p0 < 18446744073709551616) (q0_ : q0 < 18446744073709551616) (p1_ : p1 < 18446744073709551616) (q1_ : q1 < 18446744073709551616) (p2_ : p2 < 18446744073709551616) (q2_ : q2 < 18446744073709551616) (p3_ : p3 < 18446744073709551616) (q3_ : q3 < 18446744073709551616)
    (ep0 : ∀ w : World, Ru w → Calls Tryz.prog 59 #[.int .u64 a, .int .u64 c, .int .i64 2] w fun e w' => e = .returned (.tuple #[.int .u64 (p0 : Nat), .int .i64 f0]) ∧ Fwd w w') (eq0 : ∀ w : World, Ru w → Calls Tryz.prog 59 #[.int .u64 a, .int .u64 c, .int .i64 3] w fun e w' => e = .returned (.tuple #[.int .u64 (q0 : Nat), .int .i64 g0]) ∧ Fwd w w') (ep1 : ∀ w : World, Ru w → Calls Tryz.prog 59 #[.int .u64 a, .int .u64 d, .int .i64 2] w fun e w' => e = .returned (.tuple #[.int .u64 (p1 : Nat), .int .i64 f1]) ∧ Fwd w w') (eq1 : ∀ w : World, Ru w → Calls Tryz.prog 59 #[.int .u64 a, .int .u64 d, .int .i64 3] w fun e w' => e = .returned (.tuple #[.int .u64 (q1 : Nat), .int .i64 g1]) ∧ Fwd w w') (ep2 : ∀ w : World, Ru w → Calls Tryz.prog 59 #[.int .u64 b, .int .u64 c, .int .i64 2] w fun e w' => e = .returned (.tuple #[.int .u64 (p2 : Nat), .int .i64 f2]) ∧ Fwd w w') (eq2 : ∀ w : World, Ru w → Calls Tryz.prog 59 #[.int .u64 b, .int .u64 c, .int .i64 3] w fun e w' => e = .returned (.tuple #[.int .u64 (q2 : Nat), .int .i64 g2]) ∧ Fwd w w') (ep3 : ∀ w : World, Ru w → Calls Tryz.prog 59 #[.int .u64 b, .int .u64 d, .int .i64 2] w fun e w' => e = .returned (.tuple #[.int .u64 (p3 : Nat), .int .i64 f3]) ∧ Fwd w w') (eq3 : ∀ w : World, Ru w → Calls Tryz.prog 59 #[.int .u64 b, .int .u64 d, .int .i64 3] w fun e w' => e = .returned (.tuple #[.int .u64 (q3 : Nat), .int .i64 g3]) ∧ Fwd w w')
    (hl1 : decide ((cmpF p1 p0).1 < 0) = l1) (hh1 : decide ((cmpF q0 q1).1 < 0) = h1) (hl2 : decide ((cmpF p2 (joL p0 p1)).1 < 0) = l2) (hh2 : decide ((cmpF (joH q0 q1) q2).1 < 0) = h2) (hl3 : decide ((cmpF p3 (joL (joL p0 p1) p2)).1 < 0) = l3) (hh3 : decide ((cmpF (joH (joH q0 q1) q2) q3).1 < 0) = h3) :
    Calls Tryz.prog 26 #[.agg #[.int .u64 a, .int .u64 b], .agg #[.int .u64 c, .int .u64 d]] w fun e w' => e = .returned (.agg #[.int .u64 (loI p0 p1 p2 p3 : Nat), .int .u64 (hiI q0 q1 q2 q3 : Nat)]) ∧ Below w.heap.size w w' := by
  have jl1 := joL_b hl1
  have jl2 := joL_b hl2
  have jl3 := joL_b hl3
  have jh1 := joH_b hh1
  have jh2 := joH_b hh2
  have jh3 := joH_b hh3
  have cl1 := belowF p1_ p0_ hl1
  have ch1 := belowF q0_ q1_ hh1
  have cl2 := belowF p2_ (joL_lt p0_ p1_) hl2
  have ch2 := belowF (joH_lt q0_ q1_) q2_ hh2
  have cl3 := belowF p3_ (joL_lt (joL_lt p0_ p1_) p2_) hl3
  have ch3 := belowF (joH_lt (joH_lt q0_ q1_) q2_) q3_ hh3
  rw [jl1] at jl2 jl3 cl2 cl3
  rw [jl2] at jl3 cl3
  rw [jh1] at jh2 jh3 ch2 ch3
  rw [jh2] at jh3 ch3
  unfold loI hiI
  rw [jl1, jl2, jl3, jh1, jh2, jh3]
  clear hl1 hl2 hl3 hh1 hh2 hh3 jl1 jl2 jl3 jh1 jh2 jh3
  obtain ⟨t, ht, hr⟩ := im4Told
  obtain ⟨dl, n', he⟩ := isAV_ok (hr l1 h1 l2 h2 l3 h3)
  let ν : Nat → Rat := nuL [] []
  let σ : SymD := symL [.u a, .u b, .u c, .u d, .u p0, .u q0, .u p1, .u q1, .u p2, .u q2, .u p3, .u q3, .i f0, .i g0, .i f1, .i g1, .i f2, .i g2, .i f3, .i g3]
  have hcx : CxOK (DomQ true ν σ ruG) w.heap.size ⟨Tryz.prog, true, t.get, orcD (im4D l1 h1 l2 h2 l3 h3), (opH (bigHook Tryz.prog true) (opH (symHook Tryz.prog im4N (fun _ _ _ => none)) (tabHook (im4L l1 h1 l2 h2 l3 h3) im4M)))⟩ := cxS_ok (M := (DomQ true ν σ ruG)) ht ⟨[
      orcT 59 [
        { args := [.one (.atom (.sym 0)), .one (.atom (.sym 2)), .one (.lit (.int .i64 (2)))], ans := .tup [.one (.atom (.sym 4)), .one (.atom (.sym 12))], ok := by
            intro B ρ w S vs hS hr
            match vs, hr with
            | [u0, u1, u2], ⟨z0, z1, z2, _⟩ =>
              obtain ⟨rfl, _⟩ : u0 = _ ∧ _ := z0
              obtain ⟨rfl, _⟩ : u1 = _ ∧ _ := z1
              obtain ⟨rfl, _⟩ : u2 = _ ∧ _ := z2
              refine (ep0 _ (ru_of hS)).mono ?_
              rintro e w' ⟨rfl, hf⟩
              exact ⟨_, rfl, ⟨[_, _], rfl, ⟨rfl, fun _ => trivial⟩, ⟨rfl, fun _ => trivial⟩, trivial⟩, hf⟩ },
        { args := [.one (.atom (.sym 0)), .one (.atom (.sym 2)), .one (.lit (.int .i64 (3)))], ans := .tup [.one (.atom (.sym 5)), .one (.atom (.sym 13))], ok := by
            intro B ρ w S vs hS hr
            match vs, hr with
            | [u0, u1, u2], ⟨z0, z1, z2, _⟩ =>
              obtain ⟨rfl, _⟩ : u0 = _ ∧ _ := z0
              obtain ⟨rfl, _⟩ : u1 = _ ∧ _ := z1
              obtain ⟨rfl, _⟩ : u2 = _ ∧ _ := z2
              refine (eq0 _ (ru_of hS)).mono ?_
              rintro e w' ⟨rfl, hf⟩
              exact ⟨_, rfl, ⟨[_, _], rfl, ⟨rfl, fun _ => trivial⟩, ⟨rfl, fun _ => trivial⟩, trivial⟩, hf⟩ },
        { args := [.one (.atom (.sym 0)), .one (.atom (.sym 3)), .one (.lit (.int .i64 (2)))], ans := .tup [.one (.atom (.sym 6)), .one (.atom (.sym 14))], ok := by
            intro B ρ w S vs hS hr
            match vs, hr with
            | [u0, u1, u2], ⟨z0, z1, z2, _⟩ =>
              obtain ⟨rfl, _⟩ : u0 = _ ∧ _ := z0
              obtain ⟨rfl, _⟩ : u1 = _ ∧ _ := z1
              obtain ⟨rfl, _⟩ : u2 = _ ∧ _ := z2
              refine (ep1 _ (ru_of hS)).mono ?_
              rintro e w' ⟨rfl, hf⟩
              exact ⟨_, rfl, ⟨[_, _], rfl, ⟨rfl, fun _ => trivial⟩, ⟨rfl, fun _ => trivial⟩, trivial⟩, hf⟩ },
        { args := [.one (.atom (.sym 0)), .one (.atom (.sym 3)), .one (.lit (.int .i64 (3)))], ans := .tup [.one (.atom (.sym 7)), .one (.atom (.sym 15))], ok := by
            intro B ρ w S vs hS hr
            match vs, hr with
            | [u0, u1, u2], ⟨z0, z1, z2, _⟩ =>
              obtain ⟨rfl, _⟩ : u0 = _ ∧ _ := z0
              obtain ⟨rfl, _⟩ : u1 = _ ∧ _ := z1
              obtain ⟨rfl, _⟩ : u2 = _ ∧ _ := z2
              refine (eq1 _ (ru_of hS)).mono ?_
              rintro e w' ⟨rfl, hf⟩
              exact ⟨_, rfl, ⟨[_, _], rfl, ⟨rfl, fun _ => trivial⟩, ⟨rfl, fun _ => trivial⟩, trivial⟩, hf⟩ },
        { args := [.one (.atom (.sym 1)), .one (.atom (.sym 2)), .one (.lit (.int .i64 (2)))], ans := .tup [.one (.atom (.sym 8)), .one (.atom (.sym 16))], ok := by
            intro B ρ w S vs hS hr
            match vs, hr with
            | [u0, u1, u2], ⟨z0, z1, z2, _⟩ =>
              obtain ⟨rfl, _⟩ : u0 = _ ∧ _ := z0
              obtain ⟨rfl, _⟩ : u1 = _ ∧ _ := z1
              obtain ⟨rfl, _⟩ : u2 = _ ∧ _ := z2
              refine (ep2 _ (ru_of hS)).mono ?_
              rintro e w' ⟨rfl, hf⟩
              exact ⟨_, rfl, ⟨[_, _], rfl, ⟨rfl, fun _ => trivial⟩, ⟨rfl, fun _ => trivial⟩, trivial⟩, hf⟩ },
        { args := [.one (.atom (.sym 1)), .one (.atom (.sym 2)), .one (.lit (.int .i64 (3)))], ans := .tup [.one (.atom (.sym 9)), .one (.atom (.sym 17))], ok := by
            intro B ρ w S vs hS hr
            match vs, hr with
            | [u0, u1, u2], ⟨z0, z1, z2, _⟩ =>
              obtain ⟨rfl, _⟩ : u0 = _ ∧ _ := z0
              obtain ⟨rfl, _⟩ : u1 = _ ∧ _ := z1
              obtain ⟨rfl, _⟩ : u2 = _ ∧ _ := z2
              refine (eq2 _ (ru_of hS)).mono ?_
              rintro e w' ⟨rfl, hf⟩
              exact ⟨_, rfl, ⟨[_, _], rfl, ⟨rfl, fun _ => trivial⟩, ⟨rfl, fun _ => trivial⟩, trivial⟩, hf⟩ },
        { args := [.one (.atom (.sym 1)), .one (.atom (.sym 3)), .one (.lit (.int .i64 (2)))], ans := .tup [.one (.atom (.sym 10)), .one (.atom (.sym 18))], ok := by
            intro B ρ w S vs hS hr
            match vs, hr with
            | [u0, u1, u2], ⟨z0, z1, z2, _⟩ =>
              obtain ⟨rfl, _⟩ : u0 = _ ∧ _ := z0
              obtain ⟨rfl, _⟩ : u1 = _ ∧ _ := z1
              obtain ⟨rfl, _⟩ : u2 = _ ∧ _ := z2
              refine (ep3 _ (ru_of hS)).mono ?_
              rintro e w' ⟨rfl, hf⟩
              exact ⟨_, rfl, ⟨[_, _], rfl, ⟨rfl, fun _ => trivial⟩, ⟨rfl, fun _ => trivial⟩, trivial⟩, hf⟩ },
        { args := [.one (.atom (.sym 1)), .one (.atom (.sym 3)), .one (.lit (.int .i64 (3)))], ans := .tup [.one (.atom (.sym 11)), .one (.atom (.sym 19))], ok := by
            intro B ρ w S vs hS hr
            match vs, hr with
            | [u0, u1, u2], ⟨z0, z1, z2, _⟩ =>
              obtain ⟨rfl, _⟩ : u0 = _ ∧ _ := z0
              obtain ⟨rfl, _⟩ : u1 = _ ∧ _ := z1
              obtain ⟨rfl, _⟩ : u2 = _ ∧ _ := z2
              refine (eq3 _ (ru_of hS)).mono ?_
              rintro e w' ⟨rfl, hf⟩
              exact ⟨_, rfl, ⟨[_, _], rfl, ⟨rfl, fun _ => trivial⟩, ⟨rfl, fun _ => trivial⟩, trivial⟩, hf⟩ }],
      orcT 91 [
        { args := [.one (.atom (.sym 6)), .one (.atom (.sym 4))], ans := .v (.one (.lit (.bool l1))), ok := by
            intro B ρ w S vs hS hr
            match vs, hr with
            | [u0, u1], ⟨z0, z1, _⟩ =>
              obtain ⟨rfl, _⟩ : u0 = _ ∧ _ := z0
              obtain ⟨rfl, _⟩ : u1 = _ ∧ _ := z1
              refine ((show Calls Tryz.prog 91 #[_, _] w (fun e w' => e = .returned (.bool l1) ∧ Fwd w w') from by exact cl1 _)).mono ?_
              rintro e w' ⟨rfl, hf⟩
              exact ⟨_, rfl, ⟨rfl, rfl⟩, hf⟩ },
        { args := [.one (.atom (.sym 5)), .one (.atom (.sym 7))], ans := .v (.one (.lit (.bool h1))), ok := by
            intro B ρ w S vs hS hr
            match vs, hr with
            | [u0, u1], ⟨z0, z1, _⟩ =>
              obtain ⟨rfl, _⟩ : u0 = _ ∧ _ := z0
              obtain ⟨rfl, _⟩ : u1 = _ ∧ _ := z1
              refine ((show Calls Tryz.prog 91 #[_, _] w (fun e w' => e = .returned (.bool h1) ∧ Fwd w w') from by exact ch1 _)).mono ?_
              rintro e w' ⟨rfl, hf⟩
              exact ⟨_, rfl, ⟨rfl, rfl⟩, hf⟩ },
        { args := [.one (.atom (.sym 8)), .one (.atom (.sym (bif l1 then 6 else 4)))], ans := .v (.one (.lit (.bool l2))), ok := by
            intro B ρ w S vs hS hr
            match vs, hr with
            | [u0, u1], ⟨z0, z1, _⟩ =>
              obtain ⟨rfl, _⟩ : u0 = _ ∧ _ := z0
              obtain ⟨rfl, _⟩ : u1 = _ ∧ _ := z1
              refine ((show Calls Tryz.prog 91 #[_, _] w (fun e w' => e = .returned (.bool l2) ∧ Fwd w w') from by cases l1 <;> exact cl2 _)).mono ?_
              rintro e w' ⟨rfl, hf⟩
              exact ⟨_, rfl, ⟨rfl, rfl⟩, hf⟩ },
        { args := [.one (.atom (.sym (bif h1 then 7 else 5))), .one (.atom (.sym 9))], ans := .v (.one (.lit (.bool h2))), ok := by
            intro B ρ w S vs hS hr
            match vs, hr with
            | [u0, u1], ⟨z0, z1, _⟩ =>
              obtain ⟨rfl, _⟩ : u0 = _ ∧ _ := z0
              obtain ⟨rfl, _⟩ : u1 = _ ∧ _ := z1
              refine ((show Calls Tryz.prog 91 #[_, _] w (fun e w' => e = .returned (.bool h2) ∧ Fwd w w') from by cases h1 <;> exact ch2 _)).mono ?_
              rintro e w' ⟨rfl, hf⟩
              exact ⟨_, rfl, ⟨rfl, rfl⟩, hf⟩ },
        { args := [.one (.atom (.sym 10)), .one (.atom (.sym (bif l2 then 8 else (bif l1 then 6 else 4))))], ans := .v (.one (.lit (.bool l3))), ok := by
            intro B ρ w S vs hS hr
            match vs, hr with
            | [u0, u1], ⟨z0, z1, _⟩ =>
              obtain ⟨rfl, _⟩ : u0 = _ ∧ _ := z0
              obtain ⟨rfl, _⟩ : u1 = _ ∧ _ := z1
              refine ((show Calls Tryz.prog 91 #[_, _] w (fun e w' => e = .returned (.bool l3) ∧ Fwd w w') from by cases l1 <;> cases l2 <;> exact cl3 _)).mono ?_
              rintro e w' ⟨rfl, hf⟩
              exact ⟨_, rfl, ⟨rfl, rfl⟩, hf⟩ },
        { args := [.one (.atom (.sym (bif h2 then 9 else (bif h1 then 7 else 5)))), .one (.atom (.sym 11))], ans := .v (.one (.lit (.bool h3))), ok := by
            intro B ρ w S vs hS hr
            match vs, hr with
            | [u0, u1], ⟨z0, z1, _⟩ =>
              obtain ⟨rfl, _⟩ : u0 = _ ∧ _ := z0
              obtain ⟨rfl, _⟩ : u1 = _ ∧ _ := z1
              refine ((show Calls Tryz.prog 91 #[_, _] w (fun e w' => e = .returned (.bool h3) ∧ Fwd w w') from by cases h1 <;> cases h2 <;> exact ch3 _)).mono ?_
              rintro e w' ⟨rfl, hf⟩
              exact ⟨_, rfl, ⟨rfl, rfl⟩, hf⟩ }]], rfl⟩
    (opH_le (bigHook_le _ _) (opH_le (symHook_le _ _ _) (tabHook_le _ _)))
    (opH_ok (bigHook_ok _) (opH_ok (symHook_ok _ (fun h => by cases h) (fun h => by cases h)) (tabHook_ok _ all_nil all_nil)))
  refine (told_call (M := (DomQ true ν σ ruG)) (cx := ⟨Tryz.prog, true, t.get, orcD (im4D l1 h1 l2 h2 l3 h3), (opH (bigHook Tryz.prog true) (opH (symHook Tryz.prog im4N (fun _ _ _ => none)) (tabHook (im4L l1 h1 l2 h2 l3 h3) im4M)))⟩) (xs := [.agg [.atom (.sym 0), .atom (.sym 1)], .agg [.atom (.sym 2), .atom (.sym 3)]]) (vs := [.agg #[.int .u64 a, .int .u64 b], .agg #[.int .u64 c, .int .u64 d]]) Tryz.checked.mixed hcx (fun hg => ruG_ok hR hg) ⟨⟨[_, _], rfl, ⟨rfl, fun _ => trivial⟩, ⟨rfl, fun _ => trivial⟩, trivial⟩, ⟨[_, _], rfl, ⟨rfl, fun _ => trivial⟩, ⟨rfl, fun _ => trivial⟩, trivial⟩, trivial⟩ he).mono ?_
  rintro e w' ⟨v, ρ', rfl, hv, hbel⟩
  cases l1 <;> cases h1 <;> cases l2 <;> cases h2 <;> cases l3 <;> cases h3
  all_goals
    obtain ⟨us, rfl, hu⟩ := hv
    match us, hu with
    | [c0, c1], ⟨r0, r1, _⟩ =>
      obtain ⟨rfl, _⟩ : c0 = _ ∧ _ := r0
      obtain ⟨rfl, _⟩ : c1 = _ ∧ _ := r1
      exact ⟨rfl, hbel⟩
end Go.Proofs.YtcfhajnboamnnabGreatDoor
