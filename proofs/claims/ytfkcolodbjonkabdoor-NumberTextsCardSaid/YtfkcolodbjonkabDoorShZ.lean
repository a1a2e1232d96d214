/- More words: functions that are not there; rows of structs, read at a place. -/
import Derived.Test.YtfkcolodbjonkabDoorShY
namespace Go.Proofs.YtfkcolodbjonkabDoor.Sh
open Go.RowKit
set_option linter.unusedVariables false
set_option linter.unusedSimpArgs false

theorem ofV_nilFunc : ofV .nilFunc = V .nilFunc := rfl
attribute [go_sem] ofV_nilFunc

end Go.Proofs.YtfkcolodbjonkabDoor.Sh
