/-
  No cell of these rows narrows 'for every input' (looked for: loops, veiled, ifaces, maps, wideKeys, modest, calm, conditions, laid).
  DERIVED. THE GIVEN ROWS OF THIS SEAT. 6 by the template 'for every input the law returns true; each argument reads behind the call as it read before'; 0 by the template 'total and deterministic' (their statements: YtnlgboiooabbiaaTotals.lean).
  GIVEN WITH THE SEED: the statements are not yours to turn. If you find one false, say at which input.
  Laid BY PROGRAM, IN A SANDBOX (cutbox-rows.mjs): the forced cells as the released guide's own fill.sh prints them over the translation dbd4f752e211df24… (all of the seat's roots in one cut). By AI agents, Wed Nov 11 2026. No macro, syntax, notation, axiom, sorry.
-/
import Derived.Test.YtnlgboiooabbiaaChecked
import GoSem.Claim
import GoSem.ClaimJoined
import GoSem.ClaimMapViews
import Derived.JoinedTies
import Derived.KernelRfl
namespace Go.Proofs.Ytnlgboiooabbiaa
/- THE CELL 'sum', in the pinned program and in every row, IS THE sha256 OF THE DUMP (.gsa) THAT YtnlgboiooabbiaaProg.lean LOADS. Nothing in Lean hashes anything: it is a label: what it is worth is what the hold of that sum in a sandbox is worth. -/
noncomputable def Try.pinned : Pinned := { name := "ytnlgboiooabbiaa", sum := "dbd4f752e211df2423a2989549231fe8e87e5abf72d4c8bdb6e87ad974448534", checked := Try.checked }
namespace Rows
def none {H : Type} : Left H := { results := [], args := [] }

/-- 'groupcontrollaw5.TreeLimits': WHATEVER THE INPUT: true; the input reads as it did. -/
def treeLimitsSpec : ChangeSpec := { name := "treeLimits", fn := fun _ => fun
  | [d1, d2] => { results := [.lit (.bool true)], args := [d1, d2] }
  | _ => none }
def treeLimitsRow : OpenClaim := { program := "ytnlgboiooabbiaa", sum := "dbd4f752e211df2423a2989549231fe8e87e5abf72d4c8bdb6e87ad974448534", func := "groupcontrol/groupcontrollaw5.TreeLimits", spec := "treeLimits", inPlace := ["internal/abi.NoEscape", "internal/bytealg.MakeNoZero"], unfollowed := true, recurses := true, apart := false }
def TreeLimitsSaid : Prop := treeLimitsRow.holds Try.pinned (OpenSpec.ofChange treeLimitsSpec)

/-- ITS FALSE NEIGHBOUR: 'it returns false'. Refute it at one input. -/
def treeLimitsWrong : ChangeSpec := { name := "treeLimits", fn := fun _ => fun
  | [d1, d2] => { results := [.lit (.bool false)], args := [d1, d2] }
  | _ => none }
def TreeLimitsWrongFalsely : Prop := treeLimitsRow.holds Try.pinned (OpenSpec.ofChange treeLimitsWrong)

/-- 'groupcontrollaw19.ClampOpen': WHATEVER THE INPUT: true; the input reads as it did. -/
def clampOpenSpec : ChangeSpec := { name := "clampOpen", fn := fun _ => fun
  | [d1, d2] => { results := [.lit (.bool true)], args := [d1, d2] }
  | _ => none }
def clampOpenRow : OpenClaim := { program := "ytnlgboiooabbiaa", sum := "dbd4f752e211df2423a2989549231fe8e87e5abf72d4c8bdb6e87ad974448534", func := "groupcontrol/groupcontrollaw19.ClampOpen", spec := "clampOpen", unfollowed := true, recurses := true, apart := false }
def ClampOpenSaid : Prop := clampOpenRow.holds Try.pinned (OpenSpec.ofChange clampOpenSpec)

/-- ITS FALSE NEIGHBOUR: 'it returns false'. Refute it at one input. -/
def clampOpenWrong : ChangeSpec := { name := "clampOpen", fn := fun _ => fun
  | [d1, d2] => { results := [.lit (.bool false)], args := [d1, d2] }
  | _ => none }
def ClampOpenWrongFalsely : Prop := clampOpenRow.holds Try.pinned (OpenSpec.ofChange clampOpenWrong)

/-- 'groupcontrollaw19.ClampJoins': WHATEVER THE INPUT: true; the input reads as it did. -/
def clampJoinsSpec : ChangeSpec := { name := "clampJoins", fn := fun _ => fun
  | [d] => { results := [.lit (.bool true)], args := [d] }
  | _ => none }
def clampJoinsRow : OpenClaim := { program := "ytnlgboiooabbiaa", sum := "dbd4f752e211df2423a2989549231fe8e87e5abf72d4c8bdb6e87ad974448534", func := "groupcontrol/groupcontrollaw19.ClampJoins", spec := "clampJoins", unfollowed := true, recurses := true, apart := false }
def ClampJoinsSaid : Prop := clampJoinsRow.holds Try.pinned (OpenSpec.ofChange clampJoinsSpec)

/-- ITS FALSE NEIGHBOUR: 'it returns false'. Refute it at one input. -/
def clampJoinsWrong : ChangeSpec := { name := "clampJoins", fn := fun _ => fun
  | [d] => { results := [.lit (.bool false)], args := [d] }
  | _ => none }
def ClampJoinsWrongFalsely : Prop := clampJoinsRow.holds Try.pinned (OpenSpec.ofChange clampJoinsWrong)

/-- 'groupcontrollaw19.ClampAll': WHATEVER THE INPUT: true; the input reads as it did. -/
def clampAllSpec : ChangeSpec := { name := "clampAll", fn := fun _ => fun
  | [d1, d2, d3, d4, d5] => { results := [.lit (.bool true)], args := [d1, d2, d3, d4, d5] }
  | _ => none }
def clampAllRow : OpenClaim := { program := "ytnlgboiooabbiaa", sum := "dbd4f752e211df2423a2989549231fe8e87e5abf72d4c8bdb6e87ad974448534", func := "groupcontrol/groupcontrollaw19.ClampAll", spec := "clampAll", unfollowed := true, recurses := true, apart := false }
def ClampAllSaid : Prop := clampAllRow.holds Try.pinned (OpenSpec.ofChange clampAllSpec)

/-- ITS FALSE NEIGHBOUR: 'it returns false'. Refute it at one input. -/
def clampAllWrong : ChangeSpec := { name := "clampAll", fn := fun _ => fun
  | [d1, d2, d3, d4, d5] => { results := [.lit (.bool false)], args := [d1, d2, d3, d4, d5] }
  | _ => none }
def ClampAllWrongFalsely : Prop := clampAllRow.holds Try.pinned (OpenSpec.ofChange clampAllWrong)

/-- 'groupcontrollaw19.ClampOrder': WHATEVER THE INPUT: true; the input reads as it did. -/
def clampOrderSpec : ChangeSpec := { name := "clampOrder", fn := fun _ => fun
  | [d1, d2, d3] => { results := [.lit (.bool true)], args := [d1, d2, d3] }
  | _ => none }
def clampOrderRow : OpenClaim := { program := "ytnlgboiooabbiaa", sum := "dbd4f752e211df2423a2989549231fe8e87e5abf72d4c8bdb6e87ad974448534", func := "groupcontrol/groupcontrollaw19.ClampOrder", spec := "clampOrder", unfollowed := true, recurses := true, apart := false }
def ClampOrderSaid : Prop := clampOrderRow.holds Try.pinned (OpenSpec.ofChange clampOrderSpec)

/-- ITS FALSE NEIGHBOUR: 'it returns false'. Refute it at one input. -/
def clampOrderWrong : ChangeSpec := { name := "clampOrder", fn := fun _ => fun
  | [d1, d2, d3] => { results := [.lit (.bool false)], args := [d1, d2, d3] }
  | _ => none }
def ClampOrderWrongFalsely : Prop := clampOrderRow.holds Try.pinned (OpenSpec.ofChange clampOrderWrong)

/-- 'groupcontrollaw19.ClampCapacity': WHATEVER THE INPUT: true; the input reads as it did. -/
def clampCapacitySpec : ChangeSpec := { name := "clampCapacity", fn := fun _ => fun
  | [d1, d2] => { results := [.lit (.bool true)], args := [d1, d2] }
  | _ => none }
def clampCapacityRow : OpenClaim := { program := "ytnlgboiooabbiaa", sum := "dbd4f752e211df2423a2989549231fe8e87e5abf72d4c8bdb6e87ad974448534", func := "groupcontrol/groupcontrollaw19.ClampCapacity", spec := "clampCapacity", unfollowed := true, recurses := true, apart := false }
def ClampCapacitySaid : Prop := clampCapacityRow.holds Try.pinned (OpenSpec.ofChange clampCapacitySpec)

/-- ITS FALSE NEIGHBOUR: 'it returns false'. Refute it at one input. -/
def clampCapacityWrong : ChangeSpec := { name := "clampCapacity", fn := fun _ => fun
  | [d1, d2] => { results := [.lit (.bool false)], args := [d1, d2] }
  | _ => none }
def ClampCapacityWrongFalsely : Prop := clampCapacityRow.holds Try.pinned (OpenSpec.ofChange clampCapacityWrong)

/- THE SECOND FORM. 'bulk': how many values and letters a reading holds, each counted each time it is reached (what is shared counts as often as it is met; a slice's spare places count too). A statement '..UptoSaid' is the law's where the arguments, and the package variables that the reading takes, are together of bulk at most 1048576: NARROWER than '..Said'. Prove '..Said' where nothing that the law and all that it calls make is longer than what came in: it says more and counts as full. Else prove '..UptoSaid'. A law counts once. -/
mutual
def uptoBulk {H : Type} : DataW H → Nat
  | .lit (.string bytes) => bytes.length + 1
  | .lit _ => 1
  | .nil => 1
  | .ptr d => uptoBulk d + 1
  | .slice elems spare => uptoBulkAll elems + uptoBulkAll spare + 1
  | .agg parts => uptoBulkAll parts + 1
  | .iface _ d => uptoBulk d + 1
  | .map entries => uptoBulkEntries entries + 1
  | .held _ => 1
def uptoBulkAll {H : Type} : List (DataW H) → Nat
  | [] => 0
  | d :: r => uptoBulk d + uptoBulkAll r
def uptoBulkEntries {H : Type} : List (Lit × DataW H) → Nat
  | [] => 0
  | x :: r => uptoBulkEntry x + uptoBulkEntries r
def uptoBulkEntry {H : Type} : Lit × DataW H → Nat
  | (.string bytes, d) => bytes.length + uptoBulk d + 1
  | (_, d) => uptoBulk d + 1
 end
def uptoSmall : (H : Type) → List (DataW H) → Bool := fun _ ds => decide (uptoBulkAll ds ≤ 1048576)
def OpenSpec.upto (s : _root_.Go.ChangeSpec) : _root_.Go.OpenSpec := { _root_.Go.OpenSpec.ofChange s with cond := some uptoSmall }

/-- 'groupcontrollaw5.TreeLimits', WHERE WHAT IT READS IS OF BULK AT MOST 1048576: true; the input reads as it did. -/
def treeLimitsUptoRow : OpenClaim := { program := "ytnlgboiooabbiaa", sum := "dbd4f752e211df2423a2989549231fe8e87e5abf72d4c8bdb6e87ad974448534", func := "groupcontrol/groupcontrollaw5.TreeLimits", spec := "treeLimits", inPlace := ["internal/abi.NoEscape", "internal/bytealg.MakeNoZero"], unfollowed := true, recurses := true, apart := false, narrowed := true }
def TreeLimitsUptoSaid : Prop := treeLimitsUptoRow.holds Try.pinned (OpenSpec.upto treeLimitsSpec)

/-- 'groupcontrollaw19.ClampOpen', WHERE WHAT IT READS IS OF BULK AT MOST 1048576: true; the input reads as it did. -/
def clampOpenUptoRow : OpenClaim := { program := "ytnlgboiooabbiaa", sum := "dbd4f752e211df2423a2989549231fe8e87e5abf72d4c8bdb6e87ad974448534", func := "groupcontrol/groupcontrollaw19.ClampOpen", spec := "clampOpen", unfollowed := true, recurses := true, apart := false, narrowed := true }
def ClampOpenUptoSaid : Prop := clampOpenUptoRow.holds Try.pinned (OpenSpec.upto clampOpenSpec)

/-- 'groupcontrollaw19.ClampJoins', WHERE WHAT IT READS IS OF BULK AT MOST 1048576: true; the input reads as it did. -/
def clampJoinsUptoRow : OpenClaim := { program := "ytnlgboiooabbiaa", sum := "dbd4f752e211df2423a2989549231fe8e87e5abf72d4c8bdb6e87ad974448534", func := "groupcontrol/groupcontrollaw19.ClampJoins", spec := "clampJoins", unfollowed := true, recurses := true, apart := false, narrowed := true }
def ClampJoinsUptoSaid : Prop := clampJoinsUptoRow.holds Try.pinned (OpenSpec.upto clampJoinsSpec)

/-- 'groupcontrollaw19.ClampAll', WHERE WHAT IT READS IS OF BULK AT MOST 1048576: true; the input reads as it did. -/
def clampAllUptoRow : OpenClaim := { program := "ytnlgboiooabbiaa", sum := "dbd4f752e211df2423a2989549231fe8e87e5abf72d4c8bdb6e87ad974448534", func := "groupcontrol/groupcontrollaw19.ClampAll", spec := "clampAll", unfollowed := true, recurses := true, apart := false, narrowed := true }
def ClampAllUptoSaid : Prop := clampAllUptoRow.holds Try.pinned (OpenSpec.upto clampAllSpec)

/-- 'groupcontrollaw19.ClampOrder', WHERE WHAT IT READS IS OF BULK AT MOST 1048576: true; the input reads as it did. -/
def clampOrderUptoRow : OpenClaim := { program := "ytnlgboiooabbiaa", sum := "dbd4f752e211df2423a2989549231fe8e87e5abf72d4c8bdb6e87ad974448534", func := "groupcontrol/groupcontrollaw19.ClampOrder", spec := "clampOrder", unfollowed := true, recurses := true, apart := false, narrowed := true }
def ClampOrderUptoSaid : Prop := clampOrderUptoRow.holds Try.pinned (OpenSpec.upto clampOrderSpec)

/-- 'groupcontrollaw19.ClampCapacity', WHERE WHAT IT READS IS OF BULK AT MOST 1048576: true; the input reads as it did. -/
def clampCapacityUptoRow : OpenClaim := { program := "ytnlgboiooabbiaa", sum := "dbd4f752e211df2423a2989549231fe8e87e5abf72d4c8bdb6e87ad974448534", func := "groupcontrol/groupcontrollaw19.ClampCapacity", spec := "clampCapacity", unfollowed := true, recurses := true, apart := false, narrowed := true }
def ClampCapacityUptoSaid : Prop := clampCapacityUptoRow.holds Try.pinned (OpenSpec.upto clampCapacitySpec)

end Rows
end Go.Proofs.Ytnlgboiooabbiaa
