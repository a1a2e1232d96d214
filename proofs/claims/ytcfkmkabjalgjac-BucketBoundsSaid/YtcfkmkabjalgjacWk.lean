/- Laws for walks: what stays behind a call. -/
import Derived.Test.YtcfkmkabjalgjacBkm
import Derived.Test.YtcfkmkabjalgjacBks
namespace Go.Proofs.Ytcfkmkabjalgjac
open Go.RowKit
set_option linter.unusedVariables false
set_option linter.unusedSimpArgs false

theorem BkAt.call {w w' : World} {h : Nat} {b : Bk} (k : BkAt w h b) (hb : Below w.heap.size w w') : BkAt w' h b := k.below hb k.lt
theorem below_call {w W w' : World} (h : Below w.heap.size w W) (hb : Below W.heap.size W w') : Below w.heap.size w w' := h.trans (hb.mono h.size)
theorem below_al {w W : World} (h : Below w.heap.size w W) (o : Obj) : Below w.heap.size w (W.alloc o) := h.alloc h.size o
theorem below_roll {w W w' : World} {b : Nat} (h : Below w.heap.size w W) (hr : Rolled b W w') (hb : w.heap.size ≤ b) : Below w.heap.size w w' := h.trans (hr.below hb)
end Go.Proofs.Ytcfkmkabjalgjac
