/- Contracts of functions, told of values, on the way to VirtualLag. -/
import Derived.Test.YtabanfgnnelfcaaTyCa
import Derived.Test.YtabanfgnnelfcaaVtfCa
-- NEWGO
-- PRUNE: cl_lendx cl_lend
-- ISG: Its_isG
namespace Go.Proofs.Ytabanfgnnelfcaa
set_option linter.unusedVariables false
set_option linter.unusedSimpArgs false
open Go.Proofs.Ytabanfgnnelfcaa.Sh
set_option maxRecDepth 20000
theorem take_up (l : List It) (i : Nat) (h : i < l.length) : l.take (i + 1) = l.take i ++ [l.getD i zi] := by
  rw [List.take_succ_eq_append_getElem h, List.getD_eq_getElem?_getD, List.getElem?_eq_getElem h, Option.getD_some]
end Go.Proofs.Ytabanfgnnelfcaa
