/-
  No cell of these rows narrows 'for every input' (looked for: loops, veiled, ifaces, maps, wideKeys, modest, calm, conditions, laid).
  DERIVED. THE GIVEN ROWS OF THIS SEAT. 3 by the template 'for every input the law returns true; each argument reads behind the call as it read before'; 0 by the template 'total and deterministic' (their statements: YtcnilpdlcmpbbaaTotals.lean).
  GIVEN WITH THE SEED: the statements are not yours to turn. If you find one false, say at which input.
  Laid BY PROGRAM, IN A SANDBOX (cutbox-rows.mjs): the forced cells as the released guide's own fill.sh prints them over the translation 1d10e909eab202af… (all of the seat's roots in one cut). By AI agents, Wed Nov 11 2026. No macro, syntax, notation, axiom, sorry.
-/
import Derived.Test.YtcnilpdlcmpbbaaChecked
import GoSem.Claim
import GoSem.ClaimJoined
import GoSem.ClaimMapViews
import Derived.JoinedTies
import Derived.KernelRfl
namespace Go.Proofs.Ytcnilpdlcmpbbaa
/- THE CELL 'sum', in the pinned program and in every row, IS THE sha256 OF THE DUMP (.gsa) THAT YtcnilpdlcmpbbaaProg.lean LOADS. Nothing in Lean hashes anything: it is a label: what it is worth is what the hold of that sum in a sandbox is worth. -/
noncomputable def Try.pinned : Pinned := { name := "ytcnilpdlcmpbbaa", sum := "1d10e909eab202afa0d00eaa4a2fcbc49773c4a6956015402acba9b126b856b4", checked := Try.checked }
namespace Rows
def none {H : Type} : Left H := { results := [], args := [] }

/-- 'groupcontrollaw18.ThrottleSyncs': WHATEVER THE INPUT: true; the input reads as it did. -/
def throttleSyncsSpec : ChangeSpec := { name := "throttleSyncs", fn := fun _ => fun
  | [d] => { results := [.lit (.bool true)], args := [d] }
  | _ => none }
def throttleSyncsRow : OpenClaim := { program := "ytcnilpdlcmpbbaa", sum := "1d10e909eab202afa0d00eaa4a2fcbc49773c4a6956015402acba9b126b856b4", func := "groupcontrol/groupcontrollaw18.ThrottleSyncs", spec := "throttleSyncs", unfollowed := true, recurses := true, apart := false }
def ThrottleSyncsSaid : Prop := throttleSyncsRow.holds Try.pinned (OpenSpec.ofChange throttleSyncsSpec)

/-- ITS FALSE NEIGHBOUR: 'it returns false'. Refute it at one input. -/
def throttleSyncsWrong : ChangeSpec := { name := "throttleSyncs", fn := fun _ => fun
  | [d] => { results := [.lit (.bool false)], args := [d] }
  | _ => none }
def ThrottleSyncsWrongFalsely : Prop := throttleSyncsRow.holds Try.pinned (OpenSpec.ofChange throttleSyncsWrong)

/-- 'groupcontrollaw18.ThrottleReads': WHATEVER THE INPUT: true; the input reads as it did. -/
def throttleReadsSpec : ChangeSpec := { name := "throttleReads", fn := fun _ => fun
  | [d1, d2, d3] => { results := [.lit (.bool true)], args := [d1, d2, d3] }
  | _ => none }
def throttleReadsRow : OpenClaim := { program := "ytcnilpdlcmpbbaa", sum := "1d10e909eab202afa0d00eaa4a2fcbc49773c4a6956015402acba9b126b856b4", func := "groupcontrol/groupcontrollaw18.ThrottleReads", spec := "throttleReads", unfollowed := true, recurses := true, apart := false }
def ThrottleReadsSaid : Prop := throttleReadsRow.holds Try.pinned (OpenSpec.ofChange throttleReadsSpec)

/-- ITS FALSE NEIGHBOUR: 'it returns false'. Refute it at one input. -/
def throttleReadsWrong : ChangeSpec := { name := "throttleReads", fn := fun _ => fun
  | [d1, d2, d3] => { results := [.lit (.bool false)], args := [d1, d2, d3] }
  | _ => none }
def ThrottleReadsWrongFalsely : Prop := throttleReadsRow.holds Try.pinned (OpenSpec.ofChange throttleReadsWrong)

/-- 'groupcontrollaw18.ThrottleAllOrNone': WHATEVER THE INPUT: true; the input reads as it did. -/
def throttleAllOrNoneSpec : ChangeSpec := { name := "throttleAllOrNone", fn := fun _ => fun
  | [d] => { results := [.lit (.bool true)], args := [d] }
  | _ => none }
def throttleAllOrNoneRow : OpenClaim := { program := "ytcnilpdlcmpbbaa", sum := "1d10e909eab202afa0d00eaa4a2fcbc49773c4a6956015402acba9b126b856b4", func := "groupcontrol/groupcontrollaw18.ThrottleAllOrNone", spec := "throttleAllOrNone", unfollowed := true, recurses := true, apart := false }
def ThrottleAllOrNoneSaid : Prop := throttleAllOrNoneRow.holds Try.pinned (OpenSpec.ofChange throttleAllOrNoneSpec)

/-- ITS FALSE NEIGHBOUR: 'it returns false'. Refute it at one input. -/
def throttleAllOrNoneWrong : ChangeSpec := { name := "throttleAllOrNone", fn := fun _ => fun
  | [d] => { results := [.lit (.bool false)], args := [d] }
  | _ => none }
def ThrottleAllOrNoneWrongFalsely : Prop := throttleAllOrNoneRow.holds Try.pinned (OpenSpec.ofChange throttleAllOrNoneWrong)

/- THE SECOND FORM. 'bulk': how many values and letters a reading holds, each counted each time it is reached (what is shared counts as often as it is met; a slice's spare places count too). A statement '..UptoSaid' is the law's where the arguments, and the package variables that the reading takes, are together of bulk at most 1048576: NARROWER than '..Said'. Prove '..Said' where nothing that the law and all that it calls make is longer than what came in: it says more and counts as full. Else prove '..UptoSaid'. A law counts once. -/
mutual
def uptoBulk {H : Type} : DataW H → Nat
  | .lit (.string bytes) => bytes.length + 1
  | .lit _ => 1
  | .nil => 1
  | .ptr d => uptoBulk d + 1
  | .slice elems spare => uptoBulkAll elems + uptoBulkAll spare + 1
  | .agg parts => uptoBulkAll parts + 1
  | .iface _ d => uptoBulk d + 1
  | .map entries => uptoBulkEntries entries + 1
  | .held _ => 1
def uptoBulkAll {H : Type} : List (DataW H) → Nat
  | [] => 0
  | d :: r => uptoBulk d + uptoBulkAll r
def uptoBulkEntries {H : Type} : List (Lit × DataW H) → Nat
  | [] => 0
  | x :: r => uptoBulkEntry x + uptoBulkEntries r
def uptoBulkEntry {H : Type} : Lit × DataW H → Nat
  | (.string bytes, d) => bytes.length + uptoBulk d + 1
  | (_, d) => uptoBulk d + 1
 end
def uptoSmall : (H : Type) → List (DataW H) → Bool := fun _ ds => decide (uptoBulkAll ds ≤ 1048576)
def OpenSpec.upto (s : _root_.Go.ChangeSpec) : _root_.Go.OpenSpec := { _root_.Go.OpenSpec.ofChange s with cond := some uptoSmall }

/-- 'groupcontrollaw18.ThrottleSyncs', WHERE WHAT IT READS IS OF BULK AT MOST 1048576: true; the input reads as it did. -/
def throttleSyncsUptoRow : OpenClaim := { program := "ytcnilpdlcmpbbaa", sum := "1d10e909eab202afa0d00eaa4a2fcbc49773c4a6956015402acba9b126b856b4", func := "groupcontrol/groupcontrollaw18.ThrottleSyncs", spec := "throttleSyncs", unfollowed := true, recurses := true, apart := false, narrowed := true }
def ThrottleSyncsUptoSaid : Prop := throttleSyncsUptoRow.holds Try.pinned (OpenSpec.upto throttleSyncsSpec)

/-- 'groupcontrollaw18.ThrottleReads', WHERE WHAT IT READS IS OF BULK AT MOST 1048576: true; the input reads as it did. -/
def throttleReadsUptoRow : OpenClaim := { program := "ytcnilpdlcmpbbaa", sum := "1d10e909eab202afa0d00eaa4a2fcbc49773c4a6956015402acba9b126b856b4", func := "groupcontrol/groupcontrollaw18.ThrottleReads", spec := "throttleReads", unfollowed := true, recurses := true, apart := false, narrowed := true }
def ThrottleReadsUptoSaid : Prop := throttleReadsUptoRow.holds Try.pinned (OpenSpec.upto throttleReadsSpec)

/-- 'groupcontrollaw18.ThrottleAllOrNone', WHERE WHAT IT READS IS OF BULK AT MOST 1048576: true; the input reads as it did. -/
def throttleAllOrNoneUptoRow : OpenClaim := { program := "ytcnilpdlcmpbbaa", sum := "1d10e909eab202afa0d00eaa4a2fcbc49773c4a6956015402acba9b126b856b4", func := "groupcontrol/groupcontrollaw18.ThrottleAllOrNone", spec := "throttleAllOrNone", unfollowed := true, recurses := true, apart := false, narrowed := true }
def ThrottleAllOrNoneUptoSaid : Prop := throttleAllOrNoneUptoRow.holds Try.pinned (OpenSpec.upto throttleAllOrNoneSpec)

end Rows
end Go.Proofs.Ytcnilpdlcmpbbaa
