/-
  No cell of these rows narrows 'for every input' (looked for: loops, veiled, ifaces, maps, wideKeys, modest, calm, conditions, laid).
  DERIVED. THE GIVEN ROWS OF THIS SEAT. 5 by the template 'for every input the law returns true; each argument reads behind the call as it read before'; 0 by the template 'total and deterministic' (their statements: YtcfkmkabjalgjacTotals.lean).
  GIVEN WITH THE SEED: the statements are not yours to turn. If you find one false, say at which input.
  Laid BY PROGRAM, IN A SANDBOX (cutbox-rows.mjs): the forced cells as the released guide's own fill.sh prints them over the translation 7b4122cbb8de7105… (all of the seat's roots in one cut). By AI agents, Wed Nov 11 2026. No macro, syntax, notation, axiom, sorry.
-/
import Derived.Test.YtcfkmkabjalgjacChecked
import GoSem.Claim
import GoSem.ClaimJoined
import GoSem.ClaimMapViews
import Derived.JoinedTies
import Derived.KernelRfl
namespace Go.Proofs.Ytcfkmkabjalgjac
/- THE CELL 'sum', in the pinned program and in every row, IS THE sha256 OF THE DUMP (.gsa) THAT YtcfkmkabjalgjacProg.lean LOADS. Nothing in Lean hashes anything: it is a label: what it is worth is what the hold of that sum in a sandbox is worth. -/
noncomputable def Try.pinned : Pinned := { name := "ytcfkmkabjalgjac", sum := "7b4122cbb8de7105b5ecbd83cc46b9ce97315ea84c5df00c87c91ba2df76f1cc", checked := Try.checked }
namespace Rows
def none {H : Type} : Left H := { results := [], args := [] }

/-- 'groupcontrollaw30.BucketExact': WHATEVER THE INPUT: true; the input reads as it did. -/
def bucketExactSpec : ChangeSpec := { name := "bucketExact", fn := fun _ => fun
  | [d1, d2, d3, d4, d5, d6, d7] => { results := [.lit (.bool true)], args := [d1, d2, d3, d4, d5, d6, d7] }
  | _ => none }
def bucketExactRow : OpenClaim := { program := "ytcfkmkabjalgjac", sum := "7b4122cbb8de7105b5ecbd83cc46b9ce97315ea84c5df00c87c91ba2df76f1cc", func := "groupcontrol/groupcontrollaw30.BucketExact", spec := "bucketExact", apart := false }
def BucketExactSaid : Prop := bucketExactRow.holds Try.pinned (OpenSpec.ofChange bucketExactSpec)

/-- ITS FALSE NEIGHBOUR: 'it returns false'. Refute it at one input. -/
def bucketExactWrong : ChangeSpec := { name := "bucketExact", fn := fun _ => fun
  | [d1, d2, d3, d4, d5, d6, d7] => { results := [.lit (.bool false)], args := [d1, d2, d3, d4, d5, d6, d7] }
  | _ => none }
def BucketExactWrongFalsely : Prop := bucketExactRow.holds Try.pinned (OpenSpec.ofChange bucketExactWrong)

/-- 'groupcontrollaw30.BucketBounds': WHATEVER THE INPUT: true; the input reads as it did. -/
def bucketBoundsSpec : ChangeSpec := { name := "bucketBounds", fn := fun _ => fun
  | [d] => { results := [.lit (.bool true)], args := [d] }
  | _ => none }
def bucketBoundsRow : OpenClaim := { program := "ytcfkmkabjalgjac", sum := "7b4122cbb8de7105b5ecbd83cc46b9ce97315ea84c5df00c87c91ba2df76f1cc", func := "groupcontrol/groupcontrollaw30.BucketBounds", spec := "bucketBounds", apart := false }
def BucketBoundsSaid : Prop := bucketBoundsRow.holds Try.pinned (OpenSpec.ofChange bucketBoundsSpec)

/-- ITS FALSE NEIGHBOUR: 'it returns false'. Refute it at one input. -/
def bucketBoundsWrong : ChangeSpec := { name := "bucketBounds", fn := fun _ => fun
  | [d] => { results := [.lit (.bool false)], args := [d] }
  | _ => none }
def BucketBoundsWrongFalsely : Prop := bucketBoundsRow.holds Try.pinned (OpenSpec.ofChange bucketBoundsWrong)

/-- 'groupcontrollaw30.BucketWhen': WHATEVER THE INPUT: true; the input reads as it did. -/
def bucketWhenSpec : ChangeSpec := { name := "bucketWhen", fn := fun _ => fun
  | [d1, d2] => { results := [.lit (.bool true)], args := [d1, d2] }
  | _ => none }
def bucketWhenRow : OpenClaim := { program := "ytcfkmkabjalgjac", sum := "7b4122cbb8de7105b5ecbd83cc46b9ce97315ea84c5df00c87c91ba2df76f1cc", func := "groupcontrol/groupcontrollaw30.BucketWhen", spec := "bucketWhen", apart := false }
def BucketWhenSaid : Prop := bucketWhenRow.holds Try.pinned (OpenSpec.ofChange bucketWhenSpec)

/-- ITS FALSE NEIGHBOUR: 'it returns false'. Refute it at one input. -/
def bucketWhenWrong : ChangeSpec := { name := "bucketWhen", fn := fun _ => fun
  | [d1, d2] => { results := [.lit (.bool false)], args := [d1, d2] }
  | _ => none }
def BucketWhenWrongFalsely : Prop := bucketWhenRow.holds Try.pinned (OpenSpec.ofChange bucketWhenWrong)

/-- 'groupcontrollaw30.BucketSteps': WHATEVER THE INPUT: true; the input reads as it did. -/
def bucketStepsSpec : ChangeSpec := { name := "bucketSteps", fn := fun _ => fun
  | [d1, d2, d3] => { results := [.lit (.bool true)], args := [d1, d2, d3] }
  | _ => none }
def bucketStepsRow : OpenClaim := { program := "ytcfkmkabjalgjac", sum := "7b4122cbb8de7105b5ecbd83cc46b9ce97315ea84c5df00c87c91ba2df76f1cc", func := "groupcontrol/groupcontrollaw30.BucketSteps", spec := "bucketSteps", apart := false }
def BucketStepsSaid : Prop := bucketStepsRow.holds Try.pinned (OpenSpec.ofChange bucketStepsSpec)

/-- ITS FALSE NEIGHBOUR: 'it returns false'. Refute it at one input. -/
def bucketStepsWrong : ChangeSpec := { name := "bucketSteps", fn := fun _ => fun
  | [d1, d2, d3] => { results := [.lit (.bool false)], args := [d1, d2, d3] }
  | _ => none }
def BucketStepsWrongFalsely : Prop := bucketStepsRow.holds Try.pinned (OpenSpec.ofChange bucketStepsWrong)

/-- 'groupcontrollaw30.BucketChanges': WHATEVER THE INPUT: true; the input reads as it did. -/
def bucketChangesSpec : ChangeSpec := { name := "bucketChanges", fn := fun _ => fun
  | [d] => { results := [.lit (.bool true)], args := [d] }
  | _ => none }
def bucketChangesRow : OpenClaim := { program := "ytcfkmkabjalgjac", sum := "7b4122cbb8de7105b5ecbd83cc46b9ce97315ea84c5df00c87c91ba2df76f1cc", func := "groupcontrol/groupcontrollaw30.BucketChanges", spec := "bucketChanges", apart := false }
def BucketChangesSaid : Prop := bucketChangesRow.holds Try.pinned (OpenSpec.ofChange bucketChangesSpec)

/-- ITS FALSE NEIGHBOUR: 'it returns false'. Refute it at one input. -/
def bucketChangesWrong : ChangeSpec := { name := "bucketChanges", fn := fun _ => fun
  | [d] => { results := [.lit (.bool false)], args := [d] }
  | _ => none }
def BucketChangesWrongFalsely : Prop := bucketChangesRow.holds Try.pinned (OpenSpec.ofChange bucketChangesWrong)

/- THE SECOND FORM. 'bulk': how many values and letters a reading holds, each counted each time it is reached (what is shared counts as often as it is met; a slice's spare places count too). A statement '..UptoSaid' is the law's where the arguments, and the package variables that the reading takes, are together of bulk at most 1048576: NARROWER than '..Said'. Prove '..Said' where nothing that the law and all that it calls make is longer than what came in: it says more and counts as full. Else prove '..UptoSaid'. A law counts once. -/
mutual
def uptoBulk {H : Type} : DataW H → Nat
  | .lit (.string bytes) => bytes.length + 1
  | .lit _ => 1
  | .nil => 1
  | .ptr d => uptoBulk d + 1
  | .slice elems spare => uptoBulkAll elems + uptoBulkAll spare + 1
  | .agg parts => uptoBulkAll parts + 1
  | .iface _ d => uptoBulk d + 1
  | .map entries => uptoBulkEntries entries + 1
  | .held _ => 1
def uptoBulkAll {H : Type} : List (DataW H) → Nat
  | [] => 0
  | d :: r => uptoBulk d + uptoBulkAll r
def uptoBulkEntries {H : Type} : List (Lit × DataW H) → Nat
  | [] => 0
  | x :: r => uptoBulkEntry x + uptoBulkEntries r
def uptoBulkEntry {H : Type} : Lit × DataW H → Nat
  | (.string bytes, d) => bytes.length + uptoBulk d + 1
  | (_, d) => uptoBulk d + 1
 end
def uptoSmall : (H : Type) → List (DataW H) → Bool := fun _ ds => decide (uptoBulkAll ds ≤ 1048576)
def OpenSpec.upto (s : _root_.Go.ChangeSpec) : _root_.Go.OpenSpec := { _root_.Go.OpenSpec.ofChange s with cond := some uptoSmall }

/-- 'groupcontrollaw30.BucketExact', WHERE WHAT IT READS IS OF BULK AT MOST 1048576: true; the input reads as it did. -/
def bucketExactUptoRow : OpenClaim := { program := "ytcfkmkabjalgjac", sum := "7b4122cbb8de7105b5ecbd83cc46b9ce97315ea84c5df00c87c91ba2df76f1cc", func := "groupcontrol/groupcontrollaw30.BucketExact", spec := "bucketExact", apart := false, narrowed := true }
def BucketExactUptoSaid : Prop := bucketExactUptoRow.holds Try.pinned (OpenSpec.upto bucketExactSpec)

/-- 'groupcontrollaw30.BucketBounds', WHERE WHAT IT READS IS OF BULK AT MOST 1048576: true; the input reads as it did. -/
def bucketBoundsUptoRow : OpenClaim := { program := "ytcfkmkabjalgjac", sum := "7b4122cbb8de7105b5ecbd83cc46b9ce97315ea84c5df00c87c91ba2df76f1cc", func := "groupcontrol/groupcontrollaw30.BucketBounds", spec := "bucketBounds", apart := false, narrowed := true }
def BucketBoundsUptoSaid : Prop := bucketBoundsUptoRow.holds Try.pinned (OpenSpec.upto bucketBoundsSpec)

/-- 'groupcontrollaw30.BucketWhen', WHERE WHAT IT READS IS OF BULK AT MOST 1048576: true; the input reads as it did. -/
def bucketWhenUptoRow : OpenClaim := { program := "ytcfkmkabjalgjac", sum := "7b4122cbb8de7105b5ecbd83cc46b9ce97315ea84c5df00c87c91ba2df76f1cc", func := "groupcontrol/groupcontrollaw30.BucketWhen", spec := "bucketWhen", apart := false, narrowed := true }
def BucketWhenUptoSaid : Prop := bucketWhenUptoRow.holds Try.pinned (OpenSpec.upto bucketWhenSpec)

/-- 'groupcontrollaw30.BucketSteps', WHERE WHAT IT READS IS OF BULK AT MOST 1048576: true; the input reads as it did. -/
def bucketStepsUptoRow : OpenClaim := { program := "ytcfkmkabjalgjac", sum := "7b4122cbb8de7105b5ecbd83cc46b9ce97315ea84c5df00c87c91ba2df76f1cc", func := "groupcontrol/groupcontrollaw30.BucketSteps", spec := "bucketSteps", apart := false, narrowed := true }
def BucketStepsUptoSaid : Prop := bucketStepsUptoRow.holds Try.pinned (OpenSpec.upto bucketStepsSpec)

/-- 'groupcontrollaw30.BucketChanges', WHERE WHAT IT READS IS OF BULK AT MOST 1048576: true; the input reads as it did. -/
def bucketChangesUptoRow : OpenClaim := { program := "ytcfkmkabjalgjac", sum := "7b4122cbb8de7105b5ecbd83cc46b9ce97315ea84c5df00c87c91ba2df76f1cc", func := "groupcontrol/groupcontrollaw30.BucketChanges", spec := "bucketChanges", apart := false, narrowed := true }
def BucketChangesUptoSaid : Prop := bucketChangesUptoRow.holds Try.pinned (OpenSpec.upto bucketChangesSpec)

end Rows
end Go.Proofs.Ytcfkmkabjalgjac
