/-
  No cell of these rows narrows 'for every input' (looked for: loops, veiled, ifaces, maps, wideKeys, modest, calm, conditions, laid).
  DERIVED. THE GIVEN ROWS OF THIS SEAT. 3 by the template 'for every input the law returns true; each argument reads behind the call as it read before'; 0 by the template 'total and deterministic' (their statements: YtcnilpdlcmpbbaaGreatTotals.lean).
  GIVEN WITH THE SEED: the statements are not yours to turn. If you find one false, say at which input.
  Laid BY PROGRAM, IN A SANDBOX (cutbox-rows.mjs): the forced cells as the released guide's own fill.sh prints them over the translation 7aa76adf587f462e… (all of the seat's roots in one cut). By AI agents, Wed Nov 11 2026. No macro, syntax, notation, axiom, sorry.
-/
import Derived.Test.YtcnilpdlcmpbbaaGreatChecked
import GoSem.Claim
import GoSem.ClaimJoined
import GoSem.ClaimMapViews
import Derived.JoinedTies
import Derived.KernelRfl
namespace Go.Proofs.YtcnilpdlcmpbbaaGreat
/- THE CELL 'sum', in the pinned program and in every row, IS THE sha256 OF THE DUMP (.gsa) THAT YtcnilpdlcmpbbaaGreatProg.lean LOADS. Nothing in Lean hashes anything: it is a label: what it is worth is what the hold of that sum in a sandbox is worth. -/
noncomputable def Tryz.pinned : Pinned := { name := "ytcnilpdlcmpbbaagreat", sum := "7aa76adf587f462ede76e4f7d0deee2be0ab51b2ed4371259f86082390303cd3", checked := Tryz.checked }
namespace Rows
def none {H : Type} : Left H := { results := [], args := [] }

/-- 'groupcontrollaw18.ThrottleApart': WHATEVER THE INPUT: true; the input reads as it did. -/
def throttleApartSpec : ChangeSpec := { name := "throttleApart", fn := fun _ => fun
  | [d] => { results := [.lit (.bool true)], args := [d] }
  | _ => none }
def throttleApartRow : OpenClaim := { program := "ytcnilpdlcmpbbaagreat", sum := "7aa76adf587f462ede76e4f7d0deee2be0ab51b2ed4371259f86082390303cd3", func := "groupcontrol/groupcontrollaw18.ThrottleApart", spec := "throttleApart", unfollowed := true, recurses := true, apart := false }
def ThrottleApartSaid : Prop := throttleApartRow.holds Tryz.pinned (OpenSpec.ofChange throttleApartSpec)

/-- ITS FALSE NEIGHBOUR: 'it returns false'. Refute it at one input. -/
def throttleApartWrong : ChangeSpec := { name := "throttleApart", fn := fun _ => fun
  | [d] => { results := [.lit (.bool false)], args := [d] }
  | _ => none }
def ThrottleApartWrongFalsely : Prop := throttleApartRow.holds Tryz.pinned (OpenSpec.ofChange throttleApartWrong)

/-- 'groupcontrollaw18.ThrottleSteps': WHATEVER THE INPUT: true; the input reads as it did. -/
def throttleStepsSpec : ChangeSpec := { name := "throttleSteps", fn := fun _ => fun
  | [d1, d2, d3] => { results := [.lit (.bool true)], args := [d1, d2, d3] }
  | _ => none }
def throttleStepsRow : OpenClaim := { program := "ytcnilpdlcmpbbaagreat", sum := "7aa76adf587f462ede76e4f7d0deee2be0ab51b2ed4371259f86082390303cd3", func := "groupcontrol/groupcontrollaw18.ThrottleSteps", spec := "throttleSteps", unfollowed := true, recurses := true, apart := false }
def ThrottleStepsSaid : Prop := throttleStepsRow.holds Tryz.pinned (OpenSpec.ofChange throttleStepsSpec)

/-- ITS FALSE NEIGHBOUR: 'it returns false'. Refute it at one input. -/
def throttleStepsWrong : ChangeSpec := { name := "throttleSteps", fn := fun _ => fun
  | [d1, d2, d3] => { results := [.lit (.bool false)], args := [d1, d2, d3] }
  | _ => none }
def ThrottleStepsWrongFalsely : Prop := throttleStepsRow.holds Tryz.pinned (OpenSpec.ofChange throttleStepsWrong)

/-- 'groupcontrollaw18.ThrottleLimits': WHATEVER THE INPUT: true; the input reads as it did. -/
def throttleLimitsSpec : ChangeSpec := { name := "throttleLimits", fn := fun _ => fun
  | [d] => { results := [.lit (.bool true)], args := [d] }
  | _ => none }
def throttleLimitsRow : OpenClaim := { program := "ytcnilpdlcmpbbaagreat", sum := "7aa76adf587f462ede76e4f7d0deee2be0ab51b2ed4371259f86082390303cd3", func := "groupcontrol/groupcontrollaw18.ThrottleLimits", spec := "throttleLimits", unfollowed := true, recurses := true, apart := false }
def ThrottleLimitsSaid : Prop := throttleLimitsRow.holds Tryz.pinned (OpenSpec.ofChange throttleLimitsSpec)

/-- ITS FALSE NEIGHBOUR: 'it returns false'. Refute it at one input. -/
def throttleLimitsWrong : ChangeSpec := { name := "throttleLimits", fn := fun _ => fun
  | [d] => { results := [.lit (.bool false)], args := [d] }
  | _ => none }
def ThrottleLimitsWrongFalsely : Prop := throttleLimitsRow.holds Tryz.pinned (OpenSpec.ofChange throttleLimitsWrong)

/- THE SECOND FORM. 'bulk': how many values and letters a reading holds, each counted each time it is reached (what is shared counts as often as it is met; a slice's spare places count too). A statement '..UptoSaid' is the law's where the arguments, and the package variables that the reading takes, are together of bulk at most 1048576: NARROWER than '..Said'. Prove '..Said' where nothing that the law and all that it calls make is longer than what came in: it says more and counts as full. Else prove '..UptoSaid'. A law counts once. -/
mutual
def uptoBulk {H : Type} : DataW H → Nat
  | .lit (.string bytes) => bytes.length + 1
  | .lit _ => 1
  | .nil => 1
  | .ptr d => uptoBulk d + 1
  | .slice elems spare => uptoBulkAll elems + uptoBulkAll spare + 1
  | .agg parts => uptoBulkAll parts + 1
  | .iface _ d => uptoBulk d + 1
  | .map entries => uptoBulkEntries entries + 1
  | .held _ => 1
def uptoBulkAll {H : Type} : List (DataW H) → Nat
  | [] => 0
  | d :: r => uptoBulk d + uptoBulkAll r
def uptoBulkEntries {H : Type} : List (Lit × DataW H) → Nat
  | [] => 0
  | x :: r => uptoBulkEntry x + uptoBulkEntries r
def uptoBulkEntry {H : Type} : Lit × DataW H → Nat
  | (.string bytes, d) => bytes.length + uptoBulk d + 1
  | (_, d) => uptoBulk d + 1
 end
def uptoSmall : (H : Type) → List (DataW H) → Bool := fun _ ds => decide (uptoBulkAll ds ≤ 1048576)
def OpenSpec.upto (s : _root_.Go.ChangeSpec) : _root_.Go.OpenSpec := { _root_.Go.OpenSpec.ofChange s with cond := some uptoSmall }

/-- 'groupcontrollaw18.ThrottleApart', WHERE WHAT IT READS IS OF BULK AT MOST 1048576: true; the input reads as it did. -/
def throttleApartUptoRow : OpenClaim := { program := "ytcnilpdlcmpbbaagreat", sum := "7aa76adf587f462ede76e4f7d0deee2be0ab51b2ed4371259f86082390303cd3", func := "groupcontrol/groupcontrollaw18.ThrottleApart", spec := "throttleApart", unfollowed := true, recurses := true, apart := false, narrowed := true }
def ThrottleApartUptoSaid : Prop := throttleApartUptoRow.holds Tryz.pinned (OpenSpec.upto throttleApartSpec)

/-- 'groupcontrollaw18.ThrottleSteps', WHERE WHAT IT READS IS OF BULK AT MOST 1048576: true; the input reads as it did. -/
def throttleStepsUptoRow : OpenClaim := { program := "ytcnilpdlcmpbbaagreat", sum := "7aa76adf587f462ede76e4f7d0deee2be0ab51b2ed4371259f86082390303cd3", func := "groupcontrol/groupcontrollaw18.ThrottleSteps", spec := "throttleSteps", unfollowed := true, recurses := true, apart := false, narrowed := true }
def ThrottleStepsUptoSaid : Prop := throttleStepsUptoRow.holds Tryz.pinned (OpenSpec.upto throttleStepsSpec)

/-- 'groupcontrollaw18.ThrottleLimits', WHERE WHAT IT READS IS OF BULK AT MOST 1048576: true; the input reads as it did. -/
def throttleLimitsUptoRow : OpenClaim := { program := "ytcnilpdlcmpbbaagreat", sum := "7aa76adf587f462ede76e4f7d0deee2be0ab51b2ed4371259f86082390303cd3", func := "groupcontrol/groupcontrollaw18.ThrottleLimits", spec := "throttleLimits", unfollowed := true, recurses := true, apart := false, narrowed := true }
def ThrottleLimitsUptoSaid : Prop := throttleLimitsUptoRow.holds Tryz.pinned (OpenSpec.upto throttleLimitsSpec)

end Rows
end Go.Proofs.YtcnilpdlcmpbbaaGreat
