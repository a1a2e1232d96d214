/- Contracts of functions, told of values, on the way to WorkloadExact. -/
import Derived.Test.YtdpekegikbbeoaaTyDa
import Derived.Test.YtdpekegikbbeoaaWk9Da
import Derived.Test.YtdpekegikbbeoaaWkaDa
-- NEWGO
-- PRUNE: cl_lendx cg_tp cg_ts cg_any cg_show cl_show cl_use
namespace Go.Proofs.Ytdpekegikbbeoaa
set_option linter.unusedVariables false
set_option linter.unusedSimpArgs false
open Go.Proofs.Ytdpekegikbbeoaa.Sh
set_option maxRecDepth 20000
theorem dPr_ok (l : List Int) (n : Int) (hn : 1 ≤ n ∧ n ≤ 1000) : ∀ (k : Nat) (acc : List Stp) (i : Nat), (∀ s ∈ acc, sOk n s = true) → (∀ s ∈ (dPr l n k acc i).1, sOk n s = true) ∧ (dPr l n k acc i).1.length = acc.length + k
  | 0, acc, i, h => ⟨h, rfl⟩
  | k + 1, acc, i, h => by
    have := dPr_ok l n hn k (acc ++ [(dStep l i n).1]) (dStep l i n).2 (fun s hs => by
      rcases List.mem_append.1 hs with hs | hs
      · exact h s hs
      · rw [List.mem_singleton.1 hs]; exact dS_ok l _ n hn _)
    refine ⟨this.1, ?_⟩
    have e := this.2
    rw [List.length_append, List.length_singleton] at e
    show (dPr l n k _ _).1.length = _
    omega
theorem dPg_ok (l : List Int) (n : Int) (hn : 1 ≤ n ∧ n ≤ 1000) : ∀ (k : Nat) (out : List (List Stp)) (i : Nat), (∀ st ∈ out, tOk n st = true) → (∀ st ∈ (dPg l n k out i).1, tOk n st = true) ∧ (dPg l n k out i).1.length = out.length + k
  | 0, out, i, h => ⟨h, rfl⟩
  | k + 1, out, i, h => by
    have hr := nxV_rng l i 5 (by omega)
    have hp := dPr_ok l n hn (1 + nxV l i 5).toNat [] (nxA l i 5) (fun s hs => by cases hs)
    have := dPg_ok l n hn k (out ++ [(dPr l n (1 + nxV l i 5).toNat [] (nxA l i 5)).1]) (dPr l n (1 + nxV l i 5).toNat [] (nxA l i 5)).2 (fun s hs => by
      rcases List.mem_append.1 hs with hs | hs
      · exact h s hs
      · rw [List.mem_singleton.1 hs]
        unfold tOk
        rw [Bool.and_eq_true, wi_iff, List.all_eq_true]
        rw [hp.2, List.length_nil]
        exact ⟨by omega, hp.1⟩)
    refine ⟨this.1, ?_⟩
    have e := this.2
    rw [List.length_append, List.length_singleton] at e
    show (dPg l n k _ _).1.length = _
    omega
theorem dPs_ok (l : List Int) (i : Nat) : vOk (dPs l i).1 = true ∧ 1 ≤ (dPs l i).1.length ∧ (dPs l i).1.length ≤ 4 := by
  have h4 := nxV_rng l i 4 (by omega)
  have := dPg_ok l (1 + nxV l i 4) (by omega) (1 + nxV l i 4).toNat [] (nxA l i 4) (fun s hs => by cases hs)
  have e : (dPs l i).1.length = (1 + nxV l i 4).toNat := by
    have := this.2
    rw [List.length_nil, Nat.zero_add] at this
    exact this
  have e2 : ((dPs l i).1.length : Int) = 1 + nxV l i 4 := by omega
  refine ⟨?_, by omega, by omega⟩
  unfold vOk
  rw [Bool.and_eq_true, decide_eq_true_eq, List.all_eq_true, e2]
  exact ⟨by omega, this.1⟩
end Go.Proofs.Ytdpekegikbbeoaa
