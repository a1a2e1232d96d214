/- Sizes of strings that came in. -/
import Derived.Test.YtfkcolodbjonkaaDoorShSt
import Derived.ChangeMaps5
namespace Go.Proofs.YtfkcolodbjonkaaDoor.Sh
set_option linter.unusedVariables false
set_option linter.unusedSimpArgs false
open Go Go.ChangeMaps
theorem weightsEach_all {H : Type} {P : Program} {q : Nat → Bool} : ∀ (ts : List TypeId) (ds : List (DataW H)), (DataW.weightsEach P ts ds).all q = true → ∀ (j : Nat) t d, ts[j]? = some t → ds[j]? = some d → (d.weights P t).all q = true
  | [], _, _, j, t, d, h1, _ => by cases h1
  | _ :: _, [], _, j, t, d, _, h2 => by cases h2
  | t0 :: ts, d0 :: ds, h, 0, t, d, h1, h2 => by
    cases h1; cases h2
    rw [DataW.weightsEach, List.all_append, Bool.and_eq_true] at h
    exact h.1
  | t0 :: ts, d0 :: ds, h, j + 1, t, d, h1, h2 => by
    rw [DataW.weightsEach, List.all_append, Bool.and_eq_true] at h
    exact weightsEach_all ts ds h.2 j t d h1 h2
theorem str_size {H : Type} {enc : TypeId × Value → H} {P : Program} {w : World} {base : Nat} {sp : Nat → Bool} {held : Bool} {r : Reach} {b0 : Nat} {t : TypeId} {v : Value} {d : DataW H} {ps : List MemPlace} {g : List Cell} {m : Mem} {π : Plc}
    (ht : P.underlying t = some .string) (hval : Value.okWide P w r b0 t v) (h : DataW.Trod enc P w base sp held t v d ps) (hv : VS m π (svOf P t g) v) (hw : (d.weights P t).all (fun n => decide (n ≤ reachBytes)) = true) : ∀ a : ByteArray, g = [.sc (.string a)] → a.size ≤ 140737488351232 := by
  intro a e
  subst e
  simp only [svOf, ht, List.headD_cons] at hv
  have e1 := (vs_sc hv).1
  obtain ⟨s, hs, hd, _, _⟩ := open_string ht hval h
  rw [e1] at hs
  cases hs
  subst hd
  simp only [DataW.weights, List.all_cons, List.all_nil, Bool.and_true, decide_eq_true_eq] at hw
  have e2 : a.size = a.data.toList.length := by rw [Array.length_toList]; rfl
  have e3 : reachBytes = 140737488351232 := by decide +kernel
  omega
end Go.Proofs.YtfkcolodbjonkaaDoor.Sh
