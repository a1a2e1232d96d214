/- Contracts of functions, told of values, on the way to WorkloadSteps. -/
import Derived.Test.YtdpekegikbbeoaaTyDa
import Derived.Test.YtdpekegikbbeoaaDiceDa
import Derived.Test.YtdpekegikbbeoaaWkbDa
import Derived.Test.YtdpekegikbbeoaaWkeDa
-- NEWGO
-- PRUNE: cl_lendx
namespace Go.Proofs.Ytdpekegikbbeoaa
set_option linter.unusedVariables false
set_option linter.unusedSimpArgs false
open Go.Proofs.Ytdpekegikbbeoaa.Sh
set_option maxRecDepth 20000
theorem gTo_eq {p : List (List Stp)} {r s : Rr} (a : Int) (ht : s.t = r.t) (hp : s.p = r.p) : gTo p s a = gTo p r a := by
  unfold gTo stl
  rw [ht, hp]
def hN (p : List (List Stp)) (k i N : Int) (n : Nat) : Rr := if (n : Int) < N then ⟨3, k, i, N - n, 0, 0⟩ else gTo p ⟨3, k, 0, 0, 0, 0⟩ (i + 1)
theorem hN_unit (p : List (List Stp)) (k i N : Int) (n : Nat) (hv : vOk p = true) (hk : 0 ≤ k ∧ k < p.length) (hi : 0 ≤ i ∧ i < (p.getD k.toNat []).length) (hx : ((p.getD k.toNat []).getD i.toNat sz).k = 1) (hN' : ((p.getD k.toNat []).getD i.toNat sz).n = N) (hn : (n : Int) < N) :
    punit p (hN p k i N n) = (hN p k i N (n + 1), 0) := by
  have e : hN p k i N n = ⟨3, k, i, N - n, 0, 0⟩ := by unfold hN; rw [if_pos hn]
  rw [e]
  have est : stl p ⟨3, k, i, N - n, 0, 0⟩ = p.getD k.toNat [] := rfl
  have esp : stp p ⟨3, k, i, N - n, 0, 0⟩ = (p.getD k.toNat []).getD i.toNat sz := rfl
  have hs : snd p ⟨3, k, i, N - n, 0, 0⟩ = true := by
    unfold snd snd1
    have w1 : wi k 0 (p.length - 1) = true := wi_iff.2 (by omega)
    have w2 : wi i 0 ((p.getD k.toNat []).length - 1) = true := wi_iff.2 (by omega)
    have w3 : wi 3 1 2147483647 = true := by decide
    have w4 : wi 0 0 3 = true := by decide
    have w5 : sWait 0 0 = true := by decide
    have w6 : sLeft ((p.getD k.toNat []).getD i.toNat sz) (N - n) = true := by unfold sLeft; rw [if_pos hx, hN', wi_iff]; omega
    simp only [hv, est, esp, w1, w2, w3, w4, w5, w6, Bool.and_true, Int.reduceEq, if_false]
  unfold punit
  rw [if_neg (by simp [hs]), if_neg (by simp [esp]; exact hx)]
  by_cases h1 : N - n = 1
  · have h1' : (⟨3, k, i, N - n, 0, 0⟩ : Rr).l = 1 := h1
    rw [if_pos h1']
    unfold pnext
    rw [if_neg (by simp [hs]), if_neg (by simp), esp, if_neg (by rw [hx]; decide)]
    unfold hN
    rw [if_neg (by omega)]
    exact congrArg (fun y => (y, (0 : Int))) (gTo_eq (i + 1) rfl rfl)
  · have h1' : ¬ (⟨3, k, i, N - n, 0, 0⟩ : Rr).l = 1 := h1
    rw [if_neg h1']
    unfold hN
    rw [if_pos (by omega)]
    simp only [Prod.mk.injEq, Rr.mk.injEq, true_and, and_true]
    omega
end Go.Proofs.Ytdpekegikbbeoaa
