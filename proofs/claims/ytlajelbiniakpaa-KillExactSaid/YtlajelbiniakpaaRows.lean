/-
  No cell of these rows narrows 'for every input' (looked for: loops, veiled, ifaces, maps, wideKeys, modest, calm, conditions, laid).
  DERIVED. THE GIVEN ROWS OF THIS SEAT. 4 by the template 'for every input the law returns true; each argument reads behind the call as it read before'; 0 by the template 'total and deterministic' (their statements: YtlajelbiniakpaaTotals.lean).
  GIVEN WITH THE SEED: the statements are not yours to turn. If you find one false, say at which input.
  Laid BY PROGRAM, IN A SANDBOX (cutbox-rows.mjs): the forced cells as the released guide's own fill.sh prints them over the translation b6fe455d9983fea4… (all of the seat's roots in one cut). By AI agents, Wed Nov 11 2026. No macro, syntax, notation, axiom, sorry.
-/
import Derived.Test.YtlajelbiniakpaaChecked
import GoSem.Claim
import GoSem.ClaimJoined
import GoSem.ClaimMapViews
import Derived.JoinedTies
import Derived.KernelRfl
namespace Go.Proofs.Ytlajelbiniakpaa
/- THE CELL 'sum', in the pinned program and in every row, IS THE sha256 OF THE DUMP (.gsa) THAT YtlajelbiniakpaaProg.lean LOADS. Nothing in Lean hashes anything: it is a label: what it is worth is what the hold of that sum in a sandbox is worth. -/
noncomputable def Try.pinned : Pinned := { name := "ytlajelbiniakpaa", sum := "b6fe455d9983fea495d418533a4f19721314ff83c33be0a2d5aa83cbb5a47bf6", checked := Try.checked }
namespace Rows
def none {H : Type} : Left H := { results := [], args := [] }

/-- 'groupcontrollaw29.KillExact': WHATEVER THE INPUT: true; the input reads as it did. -/
def killExactSpec : ChangeSpec := { name := "killExact", fn := fun _ => fun
  | [d1, d2, d3, d4, d5, d6] => { results := [.lit (.bool true)], args := [d1, d2, d3, d4, d5, d6] }
  | _ => none }
def killExactRow : OpenClaim := { program := "ytlajelbiniakpaa", sum := "b6fe455d9983fea495d418533a4f19721314ff83c33be0a2d5aa83cbb5a47bf6", func := "groupcontrol/groupcontrollaw29.KillExact", spec := "killExact", unfollowed := true, recurses := true, apart := false }
def KillExactSaid : Prop := killExactRow.holds Try.pinned (OpenSpec.ofChange killExactSpec)

/-- ITS FALSE NEIGHBOUR: 'it returns false'. Refute it at one input. -/
def killExactWrong : ChangeSpec := { name := "killExact", fn := fun _ => fun
  | [d1, d2, d3, d4, d5, d6] => { results := [.lit (.bool false)], args := [d1, d2, d3, d4, d5, d6] }
  | _ => none }
def KillExactWrongFalsely : Prop := killExactRow.holds Try.pinned (OpenSpec.ofChange killExactWrong)

/-- 'groupcontrollaw29.KillChooses': WHATEVER THE INPUT: true; the input reads as it did. -/
def killChoosesSpec : ChangeSpec := { name := "killChooses", fn := fun _ => fun
  | [d1, d2] => { results := [.lit (.bool true)], args := [d1, d2] }
  | _ => none }
def killChoosesRow : OpenClaim := { program := "ytlajelbiniakpaa", sum := "b6fe455d9983fea495d418533a4f19721314ff83c33be0a2d5aa83cbb5a47bf6", func := "groupcontrol/groupcontrollaw29.KillChooses", spec := "killChooses", unfollowed := true, recurses := true, apart := false }
def KillChoosesSaid : Prop := killChoosesRow.holds Try.pinned (OpenSpec.ofChange killChoosesSpec)

/-- ITS FALSE NEIGHBOUR: 'it returns false'. Refute it at one input. -/
def killChoosesWrong : ChangeSpec := { name := "killChooses", fn := fun _ => fun
  | [d1, d2] => { results := [.lit (.bool false)], args := [d1, d2] }
  | _ => none }
def KillChoosesWrongFalsely : Prop := killChoosesRow.holds Try.pinned (OpenSpec.ofChange killChoosesWrong)

/-- 'groupcontrollaw29.KillTogether': WHATEVER THE INPUT: true; the input reads as it did. -/
def killTogetherSpec : ChangeSpec := { name := "killTogether", fn := fun _ => fun
  | [d] => { results := [.lit (.bool true)], args := [d] }
  | _ => none }
def killTogetherRow : OpenClaim := { program := "ytlajelbiniakpaa", sum := "b6fe455d9983fea495d418533a4f19721314ff83c33be0a2d5aa83cbb5a47bf6", func := "groupcontrol/groupcontrollaw29.KillTogether", spec := "killTogether", unfollowed := true, recurses := true, apart := false }
def KillTogetherSaid : Prop := killTogetherRow.holds Try.pinned (OpenSpec.ofChange killTogetherSpec)

/-- ITS FALSE NEIGHBOUR: 'it returns false'. Refute it at one input. -/
def killTogetherWrong : ChangeSpec := { name := "killTogether", fn := fun _ => fun
  | [d] => { results := [.lit (.bool false)], args := [d] }
  | _ => none }
def KillTogetherWrongFalsely : Prop := killTogetherRow.holds Try.pinned (OpenSpec.ofChange killTogetherWrong)

/-- 'groupcontrollaw29.KillStays': WHATEVER THE INPUT: true; the input reads as it did. -/
def killStaysSpec : ChangeSpec := { name := "killStays", fn := fun _ => fun
  | [d1, d2] => { results := [.lit (.bool true)], args := [d1, d2] }
  | _ => none }
def killStaysRow : OpenClaim := { program := "ytlajelbiniakpaa", sum := "b6fe455d9983fea495d418533a4f19721314ff83c33be0a2d5aa83cbb5a47bf6", func := "groupcontrol/groupcontrollaw29.KillStays", spec := "killStays", unfollowed := true, recurses := true, apart := false }
def KillStaysSaid : Prop := killStaysRow.holds Try.pinned (OpenSpec.ofChange killStaysSpec)

/-- ITS FALSE NEIGHBOUR: 'it returns false'. Refute it at one input. -/
def killStaysWrong : ChangeSpec := { name := "killStays", fn := fun _ => fun
  | [d1, d2] => { results := [.lit (.bool false)], args := [d1, d2] }
  | _ => none }
def KillStaysWrongFalsely : Prop := killStaysRow.holds Try.pinned (OpenSpec.ofChange killStaysWrong)

/- THE SECOND FORM. 'bulk': how many values and letters a reading holds, each counted each time it is reached (what is shared counts as often as it is met; a slice's spare places count too). A statement '..UptoSaid' is the law's where the arguments, and the package variables that the reading takes, are together of bulk at most 1048576: NARROWER than '..Said'. Prove '..Said' where nothing that the law and all that it calls make is longer than what came in: it says more and counts as full. Else prove '..UptoSaid'. A law counts once. -/
mutual
def uptoBulk {H : Type} : DataW H → Nat
  | .lit (.string bytes) => bytes.length + 1
  | .lit _ => 1
  | .nil => 1
  | .ptr d => uptoBulk d + 1
  | .slice elems spare => uptoBulkAll elems + uptoBulkAll spare + 1
  | .agg parts => uptoBulkAll parts + 1
  | .iface _ d => uptoBulk d + 1
  | .map entries => uptoBulkEntries entries + 1
  | .held _ => 1
def uptoBulkAll {H : Type} : List (DataW H) → Nat
  | [] => 0
  | d :: r => uptoBulk d + uptoBulkAll r
def uptoBulkEntries {H : Type} : List (Lit × DataW H) → Nat
  | [] => 0
  | x :: r => uptoBulkEntry x + uptoBulkEntries r
def uptoBulkEntry {H : Type} : Lit × DataW H → Nat
  | (.string bytes, d) => bytes.length + uptoBulk d + 1
  | (_, d) => uptoBulk d + 1
 end
def uptoSmall : (H : Type) → List (DataW H) → Bool := fun _ ds => decide (uptoBulkAll ds ≤ 1048576)
def OpenSpec.upto (s : _root_.Go.ChangeSpec) : _root_.Go.OpenSpec := { _root_.Go.OpenSpec.ofChange s with cond := some uptoSmall }

/-- 'groupcontrollaw29.KillExact', WHERE WHAT IT READS IS OF BULK AT MOST 1048576: true; the input reads as it did. -/
def killExactUptoRow : OpenClaim := { program := "ytlajelbiniakpaa", sum := "b6fe455d9983fea495d418533a4f19721314ff83c33be0a2d5aa83cbb5a47bf6", func := "groupcontrol/groupcontrollaw29.KillExact", spec := "killExact", unfollowed := true, recurses := true, apart := false, narrowed := true }
def KillExactUptoSaid : Prop := killExactUptoRow.holds Try.pinned (OpenSpec.upto killExactSpec)

/-- 'groupcontrollaw29.KillChooses', WHERE WHAT IT READS IS OF BULK AT MOST 1048576: true; the input reads as it did. -/
def killChoosesUptoRow : OpenClaim := { program := "ytlajelbiniakpaa", sum := "b6fe455d9983fea495d418533a4f19721314ff83c33be0a2d5aa83cbb5a47bf6", func := "groupcontrol/groupcontrollaw29.KillChooses", spec := "killChooses", unfollowed := true, recurses := true, apart := false, narrowed := true }
def KillChoosesUptoSaid : Prop := killChoosesUptoRow.holds Try.pinned (OpenSpec.upto killChoosesSpec)

/-- 'groupcontrollaw29.KillTogether', WHERE WHAT IT READS IS OF BULK AT MOST 1048576: true; the input reads as it did. -/
def killTogetherUptoRow : OpenClaim := { program := "ytlajelbiniakpaa", sum := "b6fe455d9983fea495d418533a4f19721314ff83c33be0a2d5aa83cbb5a47bf6", func := "groupcontrol/groupcontrollaw29.KillTogether", spec := "killTogether", unfollowed := true, recurses := true, apart := false, narrowed := true }
def KillTogetherUptoSaid : Prop := killTogetherUptoRow.holds Try.pinned (OpenSpec.upto killTogetherSpec)

/-- 'groupcontrollaw29.KillStays', WHERE WHAT IT READS IS OF BULK AT MOST 1048576: true; the input reads as it did. -/
def killStaysUptoRow : OpenClaim := { program := "ytlajelbiniakpaa", sum := "b6fe455d9983fea495d418533a4f19721314ff83c33be0a2d5aa83cbb5a47bf6", func := "groupcontrol/groupcontrollaw29.KillStays", spec := "killStays", unfollowed := true, recurses := true, apart := false, narrowed := true }
def KillStaysUptoSaid : Prop := killStaysUptoRow.holds Try.pinned (OpenSpec.upto killStaysSpec)

end Rows
end Go.Proofs.Ytlajelbiniakpaa
