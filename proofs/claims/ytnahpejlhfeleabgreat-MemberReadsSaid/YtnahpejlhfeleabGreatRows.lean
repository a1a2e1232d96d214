/-
  No cell of these rows narrows 'for every input' (looked for: loops, veiled, ifaces, maps, wideKeys, modest, calm, conditions, laid).
  DERIVED. THE GIVEN ROWS OF THIS SEAT. 3 by the template 'for every input the law returns true; each argument reads behind the call as it read before'; 0 by the template 'total and deterministic' (their statements: YtnahpejlhfeleabGreatTotals.lean).
  GIVEN WITH THE SEED: the statements are not yours to turn. If you find one false, say at which input.
  Laid BY PROGRAM, IN A SANDBOX (cutbox-rows.mjs): the forced cells as the released guide's own fill.sh prints them over the translation 97bb25537378da71… (all of the seat's roots in one cut). By AI agents, Wed Nov 11 2026. No macro, syntax, notation, axiom, sorry.
-/
import Derived.Test.YtnahpejlhfeleabGreatChecked
import GoSem.Claim
import GoSem.ClaimJoined
import GoSem.ClaimMapViews
import Derived.JoinedTies
import Derived.KernelRfl
namespace Go.Proofs.YtnahpejlhfeleabGreat
/- THE CELL 'sum', in the pinned program and in every row, IS THE sha256 OF THE DUMP (.gsa) THAT YtnahpejlhfeleabGreatProg.lean LOADS. Nothing in Lean hashes anything: it is a label: what it is worth is what the hold of that sum in a sandbox is worth. -/
noncomputable def Tryz.pinned : Pinned := { name := "ytnahpejlhfeleabgreat", sum := "97bb25537378da719a7292e2b5b39e62bc2949a4b6b1ba35e6c23d9908da8e33", checked := Tryz.checked }
namespace Rows
def none {H : Type} : Left H := { results := [], args := [] }

/-- 'groupcontrollaw6.MemberReads': WHATEVER THE INPUT: true; the input reads as it did. -/
def memberReadsSpec : ChangeSpec := { name := "memberReads", fn := fun _ => fun
  | [d1, d2, d3] => { results := [.lit (.bool true)], args := [d1, d2, d3] }
  | _ => none }
def memberReadsRow : OpenClaim := { program := "ytnahpejlhfeleabgreat", sum := "97bb25537378da719a7292e2b5b39e62bc2949a4b6b1ba35e6c23d9908da8e33", func := "groupcontrol/groupcontrollaw6.MemberReads", spec := "memberReads", unfollowed := true, recurses := true, apart := false }
def MemberReadsSaid : Prop := memberReadsRow.holds Tryz.pinned (OpenSpec.ofChange memberReadsSpec)

/-- ITS FALSE NEIGHBOUR: 'it returns false'. Refute it at one input. -/
def memberReadsWrong : ChangeSpec := { name := "memberReads", fn := fun _ => fun
  | [d1, d2, d3] => { results := [.lit (.bool false)], args := [d1, d2, d3] }
  | _ => none }
def MemberReadsWrongFalsely : Prop := memberReadsRow.holds Tryz.pinned (OpenSpec.ofChange memberReadsWrong)

/-- 'groupcontrollaw6.MemberChanges': WHATEVER THE INPUT: true; the input reads as it did. -/
def memberChangesSpec : ChangeSpec := { name := "memberChanges", fn := fun _ => fun
  | [d1, d2] => { results := [.lit (.bool true)], args := [d1, d2] }
  | _ => none }
def memberChangesRow : OpenClaim := { program := "ytnahpejlhfeleabgreat", sum := "97bb25537378da719a7292e2b5b39e62bc2949a4b6b1ba35e6c23d9908da8e33", func := "groupcontrol/groupcontrollaw6.MemberChanges", spec := "memberChanges", unfollowed := true, recurses := true, apart := false }
def MemberChangesSaid : Prop := memberChangesRow.holds Tryz.pinned (OpenSpec.ofChange memberChangesSpec)

/-- ITS FALSE NEIGHBOUR: 'it returns false'. Refute it at one input. -/
def memberChangesWrong : ChangeSpec := { name := "memberChanges", fn := fun _ => fun
  | [d1, d2] => { results := [.lit (.bool false)], args := [d1, d2] }
  | _ => none }
def MemberChangesWrongFalsely : Prop := memberChangesRow.holds Tryz.pinned (OpenSpec.ofChange memberChangesWrong)

/-- 'groupcontrollaw6.MemberSums': WHATEVER THE INPUT: true; the input reads as it did. -/
def memberSumsSpec : ChangeSpec := { name := "memberSums", fn := fun _ => fun
  | [d] => { results := [.lit (.bool true)], args := [d] }
  | _ => none }
def memberSumsRow : OpenClaim := { program := "ytnahpejlhfeleabgreat", sum := "97bb25537378da719a7292e2b5b39e62bc2949a4b6b1ba35e6c23d9908da8e33", func := "groupcontrol/groupcontrollaw6.MemberSums", spec := "memberSums", unfollowed := true, recurses := true, apart := false }
def MemberSumsSaid : Prop := memberSumsRow.holds Tryz.pinned (OpenSpec.ofChange memberSumsSpec)

/-- ITS FALSE NEIGHBOUR: 'it returns false'. Refute it at one input. -/
def memberSumsWrong : ChangeSpec := { name := "memberSums", fn := fun _ => fun
  | [d] => { results := [.lit (.bool false)], args := [d] }
  | _ => none }
def MemberSumsWrongFalsely : Prop := memberSumsRow.holds Tryz.pinned (OpenSpec.ofChange memberSumsWrong)

/- THE SECOND FORM. 'bulk': how many values and letters a reading holds, each counted each time it is reached (what is shared counts as often as it is met; a slice's spare places count too). A statement '..UptoSaid' is the law's where the arguments, and the package variables that the reading takes, are together of bulk at most 1048576: NARROWER than '..Said'. Prove '..Said' where nothing that the law and all that it calls make is longer than what came in: it says more and counts as full. Else prove '..UptoSaid'. A law counts once. -/
mutual
def uptoBulk {H : Type} : DataW H → Nat
  | .lit (.string bytes) => bytes.length + 1
  | .lit _ => 1
  | .nil => 1
  | .ptr d => uptoBulk d + 1
  | .slice elems spare => uptoBulkAll elems + uptoBulkAll spare + 1
  | .agg parts => uptoBulkAll parts + 1
  | .iface _ d => uptoBulk d + 1
  | .map entries => uptoBulkEntries entries + 1
  | .held _ => 1
def uptoBulkAll {H : Type} : List (DataW H) → Nat
  | [] => 0
  | d :: r => uptoBulk d + uptoBulkAll r
def uptoBulkEntries {H : Type} : List (Lit × DataW H) → Nat
  | [] => 0
  | x :: r => uptoBulkEntry x + uptoBulkEntries r
def uptoBulkEntry {H : Type} : Lit × DataW H → Nat
  | (.string bytes, d) => bytes.length + uptoBulk d + 1
  | (_, d) => uptoBulk d + 1
 end
def uptoSmall : (H : Type) → List (DataW H) → Bool := fun _ ds => decide (uptoBulkAll ds ≤ 1048576)
def OpenSpec.upto (s : _root_.Go.ChangeSpec) : _root_.Go.OpenSpec := { _root_.Go.OpenSpec.ofChange s with cond := some uptoSmall }

/-- 'groupcontrollaw6.MemberReads', WHERE WHAT IT READS IS OF BULK AT MOST 1048576: true; the input reads as it did. -/
def memberReadsUptoRow : OpenClaim := { program := "ytnahpejlhfeleabgreat", sum := "97bb25537378da719a7292e2b5b39e62bc2949a4b6b1ba35e6c23d9908da8e33", func := "groupcontrol/groupcontrollaw6.MemberReads", spec := "memberReads", unfollowed := true, recurses := true, apart := false, narrowed := true }
def MemberReadsUptoSaid : Prop := memberReadsUptoRow.holds Tryz.pinned (OpenSpec.upto memberReadsSpec)

/-- 'groupcontrollaw6.MemberChanges', WHERE WHAT IT READS IS OF BULK AT MOST 1048576: true; the input reads as it did. -/
def memberChangesUptoRow : OpenClaim := { program := "ytnahpejlhfeleabgreat", sum := "97bb25537378da719a7292e2b5b39e62bc2949a4b6b1ba35e6c23d9908da8e33", func := "groupcontrol/groupcontrollaw6.MemberChanges", spec := "memberChanges", unfollowed := true, recurses := true, apart := false, narrowed := true }
def MemberChangesUptoSaid : Prop := memberChangesUptoRow.holds Tryz.pinned (OpenSpec.upto memberChangesSpec)

/-- 'groupcontrollaw6.MemberSums', WHERE WHAT IT READS IS OF BULK AT MOST 1048576: true; the input reads as it did. -/
def memberSumsUptoRow : OpenClaim := { program := "ytnahpejlhfeleabgreat", sum := "97bb25537378da719a7292e2b5b39e62bc2949a4b6b1ba35e6c23d9908da8e33", func := "groupcontrol/groupcontrollaw6.MemberSums", spec := "memberSums", unfollowed := true, recurses := true, apart := false, narrowed := true }
def MemberSumsUptoSaid : Prop := memberSumsUptoRow.holds Tryz.pinned (OpenSpec.upto memberSumsSpec)

end Rows
end Go.Proofs.YtnahpejlhfeleabGreat
