/- Contracts of functions, told of values, on the way to VirtualShares. -/
import Derived.Test.YtabanfgnnelfcaaTyCa
import Derived.Test.YtabanfgnnelfcaaVtfCa
-- NEWGO
-- PRUNE: cl_lendx
-- ISG: Its_isG
namespace Go.Proofs.Ytabanfgnnelfcaa
set_option linter.unusedVariables false
set_option linter.unusedSimpArgs false
open Go.Proofs.Ytabanfgnnelfcaa.Sh
set_option maxRecDepth 20000
end Go.Proofs.Ytabanfgnnelfcaa
