/- Contracts of functions, told of values, on the way to VirtualKeeps. -/
import Derived.Test.YtabanfgnnelfcaaTyCa
import Derived.Test.YtabanfgnnelfcaaVtbCa
-- NEWGO
-- PRUNE: cl_lendx cl_lend
-- ISG: Its_isG
namespace Go.Proofs.Ytabanfgnnelfcaa
set_option linter.unusedVariables false
set_option linter.unusedSimpArgs false
open Go.Proofs.Ytabanfgnnelfcaa.Sh
set_option maxRecDepth 20000
theorem raise_i (v : Int) (y : It) : (raise v y).i = y.i := by unfold raise; split <;> rfl
theorem srt_raise {l : List It} (hs : srt l) (v : Int) : srt (l.map (raise v)) := by
  intro i j hij hj
  rw [List.length_map] at hj
  rw [map_at' v l i (by omega), map_at' v l j hj, raise_i, raise_i]
  exact hs i j hij hj
end Go.Proofs.Ytabanfgnnelfcaa
