/- More words for contracts: a capacity that is not told of, rows told of shorter. -/
import Derived.Test.YtfkcolodbjonkabDoorShZ
import Derived.Lib.Overlaps
namespace Go.Proofs.YtfkcolodbjonkabDoor.Sh
open Go.RowKit
set_option linter.unusedVariables false
set_option linter.unusedSimpArgs false

section
variable {P : Program} {w0 : Base} {A : Nat → Prop} {N : Nat} {Fr : Nat → Prop} {tm : Nat → Option SV} {hp : Nat → Option Row} {a : Act} {w : World} {m : Mem} {π : Plc}
end

theorem FnSpec.nilrow {P : Program} {f : FuncId} {args : List SV} (e : Nat) (h : FnSpec P f args [] (.one (.sc (.slice none 0 0))) []) : FnSpec P f args [] (.one (.osl 0 0 0 none)) [some ⟨[], e⟩] := by
  refine ⟨h.1, fun w vals m π A hA hr hv hc => (h.2 w vals m π A hA hr hv hc).mono fun e1 w' ⟨v, m', π', h1, h2, h3, h4⟩ => ?_⟩
  have hn := h2.nilrow 0 (Nat.le_refl _) e
  refine ⟨v, m', upd π' 0 (some none), h1, ?_, ?_, ?_⟩
  · have e2 : hpL [some (⟨[], e⟩ : Row)] = upd (hpL []) 0 (some ⟨[], e⟩) := by
      funext r
      cases r <;> simp [hpL, upd]
    rw [e2]
    exact hn.frmono (fun r hr => ⟨Nat.zero_le _, by simp only [List.length_cons, List.length_nil] at hr; omega⟩)
  · cases h3
    refine ⟨rfl, ?_⟩
    rw [upd_same]
    exact ⟨rfl, (fun k hk => by cases hk), none, rfl⟩
  · exact fun hq => by simp only [List.length_cons, List.length_nil] at hq; omega

theorem inR_u64 (n : Int) : inR .u64 n = (0 ≤ n ∧ n ≤ 18446744073709551615) := rfl
attribute [go_sem] inR_u64
end Go.Proofs.YtfkcolodbjonkabDoor.Sh
