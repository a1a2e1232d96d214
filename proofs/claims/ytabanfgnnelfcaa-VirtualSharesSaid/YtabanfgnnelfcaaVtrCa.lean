/- Contracts of functions, told of values, on the way to VirtualShares. -/
import Derived.Test.YtabanfgnnelfcaaTyCa
import Derived.Test.YtabanfgnnelfcaaVtkCa
import Derived.Test.YtabanfgnnelfcaaVtnCa
namespace Go.Proofs.Ytabanfgnnelfcaa
set_option linter.unusedVariables false
set_option linter.unusedSimpArgs false
open Go.Proofs.Ytabanfgnnelfcaa.Sh
set_option maxRecDepth 20000
def Hd (q : List It) (a w : Int) : Prop := ∃ i, i < q.length ∧ (q.getD i zi).i = a ∧ (q.getD i zi).a = true ∧ (q.getD i zi).w = w
def Inv (a wa b wb m c : Int) (q : List It) : Prop := qck c q = true ∧ Hd q a wa ∧ Hd q b wb ∧ qMax m c q
variable {a wa b wb m c : Int} {q : List It}
theorem hasI_mem {a : Int} {el : List Int} (h : a ∈ el) : hasI a el = true := by
  unfold hasI
  rw [List.any_eq_true]
  exact ⟨a, h, decide_eq_true rfl⟩
end Go.Proofs.Ytabanfgnnelfcaa
