/- Contracts of functions, told of values, on the way to VirtualShares. -/
import Derived.Test.YtabanfgnnelfcaaTyCa
import Derived.Test.YtabanfgnnelfcaaVtfCa
namespace Go.Proofs.Ytabanfgnnelfcaa
set_option linter.unusedVariables false
set_option linter.unusedSimpArgs false
open Go.Proofs.Ytabanfgnnelfcaa.Sh
set_option maxRecDepth 20000
def qMax (m c : Int) (l : List It) : Prop := c ≤ m ∧ ∀ i, i < l.length → (l.getD i zi).v ≤ m
theorem chg_at {c : Int} {l : List It} (hq : qck c l = true) {i : Nat} (hi : i < l.length) {id : Int} (hid : id = (l.getD i zi).i) (F : Nat → Int × List It) :
    chg c l id (F (bsV l id)) = if (F i).1 = 0 then ((stC c (F i).2, (F i).2), 0) else ((0, []), (F i).1) := by
  obtain ⟨e1, e2⟩ := bsV_at (qck_srt hq) hi hid.symm
  unfold chg
  rw [if_pos hq, if_pos e2, e1]
end Go.Proofs.Ytabanfgnnelfcaa
