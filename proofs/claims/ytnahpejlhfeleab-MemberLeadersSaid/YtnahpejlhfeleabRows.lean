/-
  No cell of these rows narrows 'for every input' (looked for: loops, veiled, ifaces, maps, wideKeys, modest, calm, conditions, laid).
  DERIVED. THE GIVEN ROWS OF THIS SEAT. 3 by the template 'for every input the law returns true; each argument reads behind the call as it read before'; 0 by the template 'total and deterministic' (their statements: YtnahpejlhfeleabTotals.lean).
  GIVEN WITH THE SEED: the statements are not yours to turn. If you find one false, say at which input.
  Laid BY PROGRAM, IN A SANDBOX (cutbox-rows.mjs): the forced cells as the released guide's own fill.sh prints them over the translation 242a2f55c9e83c0d… (all of the seat's roots in one cut). By AI agents, Wed Nov 11 2026. No macro, syntax, notation, axiom, sorry.
-/
import Derived.Test.YtnahpejlhfeleabChecked
import GoSem.Claim
import GoSem.ClaimJoined
import GoSem.ClaimMapViews
import Derived.JoinedTies
import Derived.KernelRfl
namespace Go.Proofs.Ytnahpejlhfeleab
/- THE CELL 'sum', in the pinned program and in every row, IS THE sha256 OF THE DUMP (.gsa) THAT YtnahpejlhfeleabProg.lean LOADS. Nothing in Lean hashes anything: it is a label: what it is worth is what the hold of that sum in a sandbox is worth. -/
noncomputable def Try.pinned : Pinned := { name := "ytnahpejlhfeleab", sum := "242a2f55c9e83c0dad25aa030604056c4eaab30ec5665028516764a8721dc90a", checked := Try.checked }
namespace Rows
def none {H : Type} : Left H := { results := [], args := [] }

/-- 'groupcontrollaw6.MemberMoves': WHATEVER THE INPUT: true; the input reads as it did. -/
def memberMovesSpec : ChangeSpec := { name := "memberMoves", fn := fun _ => fun
  | [d] => { results := [.lit (.bool true)], args := [d] }
  | _ => none }
def memberMovesRow : OpenClaim := { program := "ytnahpejlhfeleab", sum := "242a2f55c9e83c0dad25aa030604056c4eaab30ec5665028516764a8721dc90a", func := "groupcontrol/groupcontrollaw6.MemberMoves", spec := "memberMoves", unfollowed := true, recurses := true, apart := false }
def MemberMovesSaid : Prop := memberMovesRow.holds Try.pinned (OpenSpec.ofChange memberMovesSpec)

/-- ITS FALSE NEIGHBOUR: 'it returns false'. Refute it at one input. -/
def memberMovesWrong : ChangeSpec := { name := "memberMoves", fn := fun _ => fun
  | [d] => { results := [.lit (.bool false)], args := [d] }
  | _ => none }
def MemberMovesWrongFalsely : Prop := memberMovesRow.holds Try.pinned (OpenSpec.ofChange memberMovesWrong)

/-- 'groupcontrollaw6.MemberThreads': WHATEVER THE INPUT: true; the input reads as it did. -/
def memberThreadsSpec : ChangeSpec := { name := "memberThreads", fn := fun _ => fun
  | [d] => { results := [.lit (.bool true)], args := [d] }
  | _ => none }
def memberThreadsRow : OpenClaim := { program := "ytnahpejlhfeleab", sum := "242a2f55c9e83c0dad25aa030604056c4eaab30ec5665028516764a8721dc90a", func := "groupcontrol/groupcontrollaw6.MemberThreads", spec := "memberThreads", unfollowed := true, recurses := true, apart := false }
def MemberThreadsSaid : Prop := memberThreadsRow.holds Try.pinned (OpenSpec.ofChange memberThreadsSpec)

/-- ITS FALSE NEIGHBOUR: 'it returns false'. Refute it at one input. -/
def memberThreadsWrong : ChangeSpec := { name := "memberThreads", fn := fun _ => fun
  | [d] => { results := [.lit (.bool false)], args := [d] }
  | _ => none }
def MemberThreadsWrongFalsely : Prop := memberThreadsRow.holds Try.pinned (OpenSpec.ofChange memberThreadsWrong)

/-- 'groupcontrollaw6.MemberLeaders': WHATEVER THE INPUT: true; the input reads as it did. -/
def memberLeadersSpec : ChangeSpec := { name := "memberLeaders", fn := fun _ => fun
  | [d] => { results := [.lit (.bool true)], args := [d] }
  | _ => none }
def memberLeadersRow : OpenClaim := { program := "ytnahpejlhfeleab", sum := "242a2f55c9e83c0dad25aa030604056c4eaab30ec5665028516764a8721dc90a", func := "groupcontrol/groupcontrollaw6.MemberLeaders", spec := "memberLeaders", unfollowed := true, recurses := true, apart := false }
def MemberLeadersSaid : Prop := memberLeadersRow.holds Try.pinned (OpenSpec.ofChange memberLeadersSpec)

/-- ITS FALSE NEIGHBOUR: 'it returns false'. Refute it at one input. -/
def memberLeadersWrong : ChangeSpec := { name := "memberLeaders", fn := fun _ => fun
  | [d] => { results := [.lit (.bool false)], args := [d] }
  | _ => none }
def MemberLeadersWrongFalsely : Prop := memberLeadersRow.holds Try.pinned (OpenSpec.ofChange memberLeadersWrong)

/- THE SECOND FORM. 'bulk': how many values and letters a reading holds, each counted each time it is reached (what is shared counts as often as it is met; a slice's spare places count too). A statement '..UptoSaid' is the law's where the arguments, and the package variables that the reading takes, are together of bulk at most 1048576: NARROWER than '..Said'. Prove '..Said' where nothing that the law and all that it calls make is longer than what came in: it says more and counts as full. Else prove '..UptoSaid'. A law counts once. -/
mutual
def uptoBulk {H : Type} : DataW H → Nat
  | .lit (.string bytes) => bytes.length + 1
  | .lit _ => 1
  | .nil => 1
  | .ptr d => uptoBulk d + 1
  | .slice elems spare => uptoBulkAll elems + uptoBulkAll spare + 1
  | .agg parts => uptoBulkAll parts + 1
  | .iface _ d => uptoBulk d + 1
  | .map entries => uptoBulkEntries entries + 1
  | .held _ => 1
def uptoBulkAll {H : Type} : List (DataW H) → Nat
  | [] => 0
  | d :: r => uptoBulk d + uptoBulkAll r
def uptoBulkEntries {H : Type} : List (Lit × DataW H) → Nat
  | [] => 0
  | x :: r => uptoBulkEntry x + uptoBulkEntries r
def uptoBulkEntry {H : Type} : Lit × DataW H → Nat
  | (.string bytes, d) => bytes.length + uptoBulk d + 1
  | (_, d) => uptoBulk d + 1
 end
def uptoSmall : (H : Type) → List (DataW H) → Bool := fun _ ds => decide (uptoBulkAll ds ≤ 1048576)
def OpenSpec.upto (s : _root_.Go.ChangeSpec) : _root_.Go.OpenSpec := { _root_.Go.OpenSpec.ofChange s with cond := some uptoSmall }

/-- 'groupcontrollaw6.MemberMoves', WHERE WHAT IT READS IS OF BULK AT MOST 1048576: true; the input reads as it did. -/
def memberMovesUptoRow : OpenClaim := { program := "ytnahpejlhfeleab", sum := "242a2f55c9e83c0dad25aa030604056c4eaab30ec5665028516764a8721dc90a", func := "groupcontrol/groupcontrollaw6.MemberMoves", spec := "memberMoves", unfollowed := true, recurses := true, apart := false, narrowed := true }
def MemberMovesUptoSaid : Prop := memberMovesUptoRow.holds Try.pinned (OpenSpec.upto memberMovesSpec)

/-- 'groupcontrollaw6.MemberThreads', WHERE WHAT IT READS IS OF BULK AT MOST 1048576: true; the input reads as it did. -/
def memberThreadsUptoRow : OpenClaim := { program := "ytnahpejlhfeleab", sum := "242a2f55c9e83c0dad25aa030604056c4eaab30ec5665028516764a8721dc90a", func := "groupcontrol/groupcontrollaw6.MemberThreads", spec := "memberThreads", unfollowed := true, recurses := true, apart := false, narrowed := true }
def MemberThreadsUptoSaid : Prop := memberThreadsUptoRow.holds Try.pinned (OpenSpec.upto memberThreadsSpec)

/-- 'groupcontrollaw6.MemberLeaders', WHERE WHAT IT READS IS OF BULK AT MOST 1048576: true; the input reads as it did. -/
def memberLeadersUptoRow : OpenClaim := { program := "ytnahpejlhfeleab", sum := "242a2f55c9e83c0dad25aa030604056c4eaab30ec5665028516764a8721dc90a", func := "groupcontrol/groupcontrollaw6.MemberLeaders", spec := "memberLeaders", unfollowed := true, recurses := true, apart := false, narrowed := true }
def MemberLeadersUptoSaid : Prop := memberLeadersUptoRow.holds Try.pinned (OpenSpec.upto memberLeadersSpec)

end Rows
end Go.Proofs.Ytnahpejlhfeleab
