/- GenLike: a Toeplitz matrix is one like it, of rank two: the law's walk, by the reader, upon letters. -/
import Derived.Test.YtcccejhkblnonaaGreatXKGL0
import Derived.Test.YtcccejhkblnonaaGreatXKGL1
import Derived.Test.YtcccejhkblnonaaGreatXKGL2
import Derived.Test.YtcccejhkblnonaaGreatXKGL3
namespace Go.Proofs.YtcccejhkblnonaaGreat
open Go.RowKit Go.Ev
set_option linter.unusedVariables false

theorem genLike_of {w : World} {n : Int} {v : Value} {zs : List Int} (hn : (Lit.int .i64 n).wf = true) (hv : NsV w v zs) {l : List Nat}
    (h : ∃ t : Tr Func, TabOK Tryz.prog t ∧ (l.all fun k => isTrueA (evalCall ⟨Tryz.prog, true, t.get, glO k, gsHook Tryz.prog⟩ 1000000 7 [.one (.atom (.sym 0)), .one (.atom (.sym 1))] .e 0)) = true) (hk : (n % ((6 : Nat) : Int)).toNat ∈ l) :
    Calls Tryz.prog 7 #[.int .i64 n, v] w fun e w' => e = .returned (.bool true) ∧ Below w.heap.size w w' := by
  obtain ⟨n1, n2⟩ := bounds_i64 hn
  obtain ⟨t, ht, hr⟩ := h
  rw [List.all_eq_true] at hr
  have h0 : 0 ≤ n % ((6 : Nat) : Int) := Int.emod_nonneg _ (by omega)
  refine true_call (M := DomQ true (glV zs) (symN n v (ns_cell hv)) (gw w)) (cx := ⟨Tryz.prog, true, t.get, glO (n % ((6 : Nat) : Int)).toNat, gsHook Tryz.prog⟩) (xs := [.one (.atom (.sym 0)), .one (.atom (.sym 1))]) (vs := [.int .i64 n, v]) Tryz.checked.mixed
    (glCx ht hv n1 n2 (by omega)) (fun hg => gw_ok hg) ⟨⟨rfl, fun _ => trivial⟩, ⟨rfl, fun _ => trivial⟩, trivial⟩ (hr _ hk)

theorem genLike_walk {w : World} {n : Int} {v : Value} {zs : List Int} (hn : (Lit.int .i64 n).wf = true) (hv : NsV w v zs) :
    Calls Tryz.prog 7 #[.int .i64 n, v] w fun e w' => e = .returned (.bool true) ∧ Below w.heap.size w w' := by
  obtain ⟨k, hk⟩ : ∃ k, k = (n % ((6 : Nat) : Int)).toNat := ⟨_, rfl⟩
  have h1 : n % ((6 : Nat) : Int) < 6 := Int.emod_lt_of_pos _ (by omega)
  have h6 : k < 6 := by omega
  by_cases c0 : k < 3
  · exact genLike_of hn hv glRead0 (by
      rw [← hk]
      have hh : k = 0 ∨ k = 1 ∨ k = 2 := by omega
      simpa using hh)
  by_cases c1 : k < 4
  · exact genLike_of hn hv glRead1 (by
      rw [← hk]
      have hh : k = 3 := by omega
      simpa using hh)
  by_cases c2 : k < 5
  · exact genLike_of hn hv glRead2 (by
      rw [← hk]
      have hh : k = 4 := by omega
      simpa using hh)
  by_cases c3 : k < 6
  · exact genLike_of hn hv glRead3 (by
      rw [← hk]
      have hh : k = 5 := by omega
      simpa using hh)
  omega
end Go.Proofs.YtcccejhkblnonaaGreat
