/-
  No cell of these rows narrows 'for every input' (looked for: loops, veiled, ifaces, maps, wideKeys, modest, calm, conditions, laid).
  DERIVED. THE GIVEN ROWS OF THIS SEAT. 3 by the template 'for every input the law returns true; each argument reads behind the call as it read before'; 0 by the template 'total and deterministic' (their statements: YtcfkmkabjalgjaaTotals.lean).
  GIVEN WITH THE SEED: the statements are not yours to turn. If you find one false, say at which input.
  Laid BY PROGRAM, IN A SANDBOX (cutbox-rows.mjs): the forced cells as the released guide's own fill.sh prints them over the translation d892ca798198c99c… (all of the seat's roots in one cut). By AI agents, Wed Nov 11 2026. No macro, syntax, notation, axiom, sorry.
-/
import Derived.Test.YtcfkmkabjalgjaaChecked
import GoSem.Claim
import GoSem.ClaimJoined
import GoSem.ClaimMapViews
import Derived.JoinedTies
import Derived.KernelRfl
namespace Go.Proofs.Ytcfkmkabjalgjaa
/- THE CELL 'sum', in the pinned program and in every row, IS THE sha256 OF THE DUMP (.gsa) THAT YtcfkmkabjalgjaaProg.lean LOADS. Nothing in Lean hashes anything: it is a label: what it is worth is what the hold of that sum in a sandbox is worth. -/
noncomputable def Try.pinned : Pinned := { name := "ytcfkmkabjalgjaa", sum := "d892ca798198c99c7c41f20831a1fdf6315b43c845fbec1fddd74a14d51d8a38", checked := Try.checked }
namespace Rows
def none {H : Type} : Left H := { results := [], args := [] }

/-- 'groupcontrollaw2.NumberSuffixes': WHATEVER THE INPUT: true; the input reads as it did. -/
def numberSuffixesSpec : ChangeSpec := { name := "numberSuffixes", fn := fun _ => fun
  | [d1, d2] => { results := [.lit (.bool true)], args := [d1, d2] }
  | _ => none }
def numberSuffixesRow : OpenClaim := { program := "ytcfkmkabjalgjaa", sum := "d892ca798198c99c7c41f20831a1fdf6315b43c845fbec1fddd74a14d51d8a38", func := "groupcontrol/groupcontrollaw2.NumberSuffixes", spec := "numberSuffixes", apart := false }
def NumberSuffixesSaid : Prop := numberSuffixesRow.holds Try.pinned (OpenSpec.ofChange numberSuffixesSpec)

/-- ITS FALSE NEIGHBOUR: 'it returns false'. Refute it at one input. -/
def numberSuffixesWrong : ChangeSpec := { name := "numberSuffixes", fn := fun _ => fun
  | [d1, d2] => { results := [.lit (.bool false)], args := [d1, d2] }
  | _ => none }
def NumberSuffixesWrongFalsely : Prop := numberSuffixesRow.holds Try.pinned (OpenSpec.ofChange numberSuffixesWrong)

/-- 'groupcontrollaw2.NumberSums': WHATEVER THE INPUT: true; the input reads as it did. -/
def numberSumsSpec : ChangeSpec := { name := "numberSums", fn := fun _ => fun
  | [d1, d2, d3, d4] => { results := [.lit (.bool true)], args := [d1, d2, d3, d4] }
  | _ => none }
def numberSumsRow : OpenClaim := { program := "ytcfkmkabjalgjaa", sum := "d892ca798198c99c7c41f20831a1fdf6315b43c845fbec1fddd74a14d51d8a38", func := "groupcontrol/groupcontrollaw2.NumberSums", spec := "numberSums", apart := false }
def NumberSumsSaid : Prop := numberSumsRow.holds Try.pinned (OpenSpec.ofChange numberSumsSpec)

/-- ITS FALSE NEIGHBOUR: 'it returns false'. Refute it at one input. -/
def numberSumsWrong : ChangeSpec := { name := "numberSums", fn := fun _ => fun
  | [d1, d2, d3, d4] => { results := [.lit (.bool false)], args := [d1, d2, d3, d4] }
  | _ => none }
def NumberSumsWrongFalsely : Prop := numberSumsRow.holds Try.pinned (OpenSpec.ofChange numberSumsWrong)

/-- 'groupcontrollaw14.DivideScales': WHATEVER THE INPUT: true; the input reads as it did. -/
def divideScalesSpec : ChangeSpec := { name := "divideScales", fn := fun _ => fun
  | [d1, d2, d3] => { results := [.lit (.bool true)], args := [d1, d2, d3] }
  | _ => none }
def divideScalesRow : OpenClaim := { program := "ytcfkmkabjalgjaa", sum := "d892ca798198c99c7c41f20831a1fdf6315b43c845fbec1fddd74a14d51d8a38", func := "groupcontrol/groupcontrollaw14.DivideScales", spec := "divideScales", apart := false }
def DivideScalesSaid : Prop := divideScalesRow.holds Try.pinned (OpenSpec.ofChange divideScalesSpec)

/-- ITS FALSE NEIGHBOUR: 'it returns false'. Refute it at one input. -/
def divideScalesWrong : ChangeSpec := { name := "divideScales", fn := fun _ => fun
  | [d1, d2, d3] => { results := [.lit (.bool false)], args := [d1, d2, d3] }
  | _ => none }
def DivideScalesWrongFalsely : Prop := divideScalesRow.holds Try.pinned (OpenSpec.ofChange divideScalesWrong)

/- THE SECOND FORM. 'bulk': how many values and letters a reading holds, each counted each time it is reached (what is shared counts as often as it is met; a slice's spare places count too). A statement '..UptoSaid' is the law's where the arguments, and the package variables that the reading takes, are together of bulk at most 1048576: NARROWER than '..Said'. Prove '..Said' where nothing that the law and all that it calls make is longer than what came in: it says more and counts as full. Else prove '..UptoSaid'. A law counts once. -/
mutual
def uptoBulk {H : Type} : DataW H → Nat
  | .lit (.string bytes) => bytes.length + 1
  | .lit _ => 1
  | .nil => 1
  | .ptr d => uptoBulk d + 1
  | .slice elems spare => uptoBulkAll elems + uptoBulkAll spare + 1
  | .agg parts => uptoBulkAll parts + 1
  | .iface _ d => uptoBulk d + 1
  | .map entries => uptoBulkEntries entries + 1
  | .held _ => 1
def uptoBulkAll {H : Type} : List (DataW H) → Nat
  | [] => 0
  | d :: r => uptoBulk d + uptoBulkAll r
def uptoBulkEntries {H : Type} : List (Lit × DataW H) → Nat
  | [] => 0
  | x :: r => uptoBulkEntry x + uptoBulkEntries r
def uptoBulkEntry {H : Type} : Lit × DataW H → Nat
  | (.string bytes, d) => bytes.length + uptoBulk d + 1
  | (_, d) => uptoBulk d + 1
 end
def uptoSmall : (H : Type) → List (DataW H) → Bool := fun _ ds => decide (uptoBulkAll ds ≤ 1048576)
def OpenSpec.upto (s : _root_.Go.ChangeSpec) : _root_.Go.OpenSpec := { _root_.Go.OpenSpec.ofChange s with cond := some uptoSmall }

/-- 'groupcontrollaw2.NumberSuffixes', WHERE WHAT IT READS IS OF BULK AT MOST 1048576: true; the input reads as it did. -/
def numberSuffixesUptoRow : OpenClaim := { program := "ytcfkmkabjalgjaa", sum := "d892ca798198c99c7c41f20831a1fdf6315b43c845fbec1fddd74a14d51d8a38", func := "groupcontrol/groupcontrollaw2.NumberSuffixes", spec := "numberSuffixes", apart := false, narrowed := true }
def NumberSuffixesUptoSaid : Prop := numberSuffixesUptoRow.holds Try.pinned (OpenSpec.upto numberSuffixesSpec)

/-- 'groupcontrollaw2.NumberSums', WHERE WHAT IT READS IS OF BULK AT MOST 1048576: true; the input reads as it did. -/
def numberSumsUptoRow : OpenClaim := { program := "ytcfkmkabjalgjaa", sum := "d892ca798198c99c7c41f20831a1fdf6315b43c845fbec1fddd74a14d51d8a38", func := "groupcontrol/groupcontrollaw2.NumberSums", spec := "numberSums", apart := false, narrowed := true }
def NumberSumsUptoSaid : Prop := numberSumsUptoRow.holds Try.pinned (OpenSpec.upto numberSumsSpec)

/-- 'groupcontrollaw14.DivideScales', WHERE WHAT IT READS IS OF BULK AT MOST 1048576: true; the input reads as it did. -/
def divideScalesUptoRow : OpenClaim := { program := "ytcfkmkabjalgjaa", sum := "d892ca798198c99c7c41f20831a1fdf6315b43c845fbec1fddd74a14d51d8a38", func := "groupcontrol/groupcontrollaw14.DivideScales", spec := "divideScales", apart := false, narrowed := true }
def DivideScalesUptoSaid : Prop := divideScalesUptoRow.holds Try.pinned (OpenSpec.upto divideScalesSpec)

end Rows
end Go.Proofs.Ytcfkmkabjalgjaa
