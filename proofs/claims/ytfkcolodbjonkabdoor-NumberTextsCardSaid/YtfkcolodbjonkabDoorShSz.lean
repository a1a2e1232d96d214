/- Sizes of strings that came in. -/
import Derived.Test.YtfkcolodbjonkabDoorShSt
import Derived.ChangeMaps5
namespace Go.Proofs.YtfkcolodbjonkabDoor.Sh
set_option linter.unusedVariables false
set_option linter.unusedSimpArgs false
open Go Go.ChangeMaps
theorem weightsEach_all {H : Type} {P : Program} {q : Nat → Bool} : ∀ (ts : List TypeId) (ds : List (DataW H)), (DataW.weightsEach P ts ds).all q = true → ∀ (j : Nat) t d, ts[j]? = some t → ds[j]? = some d → (d.weights P t).all q = true
  | [], _, _, j, t, d, h1, _ => by cases h1
  | _ :: _, [], _, j, t, d, _, h2 => by cases h2
  | t0 :: ts, d0 :: ds, h, 0, t, d, h1, h2 => by
    cases h1; cases h2
    rw [DataW.weightsEach, List.all_append, Bool.and_eq_true] at h
    exact h.1
  | t0 :: ts, d0 :: ds, h, j + 1, t, d, h1, h2 => by
    rw [DataW.weightsEach, List.all_append, Bool.and_eq_true] at h
    exact weightsEach_all ts ds h.2 j t d h1 h2
theorem str_size {H : Type} {enc : TypeId × Value → H} {P : Program} {w : World} {base : Nat} {sp : Nat → Bool} {held : Bool} {r : Reach} {b0 : Nat} {t : TypeId} {v : Value} {d : DataW H} {ps : List MemPlace} {g : List Cell} {m : Mem} {π : Plc}
    (ht : P.underlying t = some .string) (hval : Value.okWide P w r b0 t v) (h : DataW.Trod enc P w base sp held t v d ps) (hv : VS m π (svOf P t g) v) (hw : (d.weights P t).all (fun n => decide (n ≤ reachBytes)) = true) : ∀ a : ByteArray, g = [.sc (.string a)] → a.size ≤ 140737488351232 := by
  intro a e
  subst e
  simp only [svOf, ht, List.headD_cons] at hv
  have e1 := (vs_sc hv).1
  obtain ⟨s, hs, hd, _, _⟩ := open_string ht hval h
  rw [e1] at hs
  cases hs
  subst hd
  simp only [DataW.weights, List.all_cons, List.all_nil, Bool.and_true, decide_eq_true_eq] at hw
  have e2 : a.size = a.data.toList.length := by rw [Array.length_toList]; rfl
  have e3 : reachBytes = 140737488351232 := by decide +kernel
  omega
theorem laidVars_mem {P : Program} {w : World} : ∀ {l : List (String × DataW Unit)} {ps : List MemPlace}, DataW.LaidVars P w l ps → ∀ x ∈ l, ∃ g t cs fuel p, P.globalNamed x.1 = some g ∧ (P.globals[g]?).map (·.type) = some t ∧ w.var? P x.1 = some cs ∧ DataW.trod (fun _ => ()) P w 0 (fun _ => true) false fuel t cs.toList = some (x.2, p)
  | [], _, _, x, hx => (List.not_mem_nil hx).elim
  | (n, d) :: r, ps, ⟨g, t, cs, fuel, p, q, h1, h2, h3, h4, h5, _⟩, x, hx => by
    rcases List.mem_cons.1 hx with rfl | hx
    · exact ⟨g, t, cs, fuel, p, h1, h2, h3, h4⟩
    · exact laidVars_mem h5 x hx
theorem tab_of_laid {P : Program} {W : World} {name : String} {k : IntKind} {zs : List Int} {l : List (String × DataW Unit)} {g : Nat} {t e : TypeId} {n : Nat}
    (hg : P.globalNamed name = some g) (hty : (P.globals[g]?).map (·.type) = some t) (ht : P.underlying t = some (.array n e)) (he : P.underlying e = some (.int k)) (hce : P.cellsOf e = 1) (hct : P.cellsOf t = n)
    (hm : (name, Lib.tabData k zs) ∈ l) (h : laidMet P l W) : Lib.TabIs P W name k zs := by
  obtain ⟨ps, hv, _⟩ := h
  obtain ⟨g', t', cs, fuel, p, hg', ht', hvar, hd⟩ := laidVars_mem hv _ hm
  obtain rfl := Option.some.inj (hg.symm.trans hg')
  obtain rfl := Option.some.inj (hty.symm.trans ht')
  unfold Lib.TabIs
  rw [hvar, ← Lib.cells_of_tab ht he hce hct hd]
end Go.Proofs.YtfkcolodbjonkabDoor.Sh
