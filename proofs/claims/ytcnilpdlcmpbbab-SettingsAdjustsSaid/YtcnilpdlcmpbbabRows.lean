/-
  No cell of these rows narrows 'for every input' (looked for: loops, veiled, ifaces, maps, wideKeys, modest, calm, conditions, laid).
  DERIVED. THE GIVEN ROWS OF THIS SEAT. 6 by the template 'for every input the law returns true; each argument reads behind the call as it read before'; 0 by the template 'total and deterministic' (their statements: YtcnilpdlcmpbbabTotals.lean).
  GIVEN WITH THE SEED: the statements are not yours to turn. If you find one false, say at which input.
  Laid BY PROGRAM, IN A SANDBOX (cutbox-rows.mjs): the forced cells as the released guide's own fill.sh prints them over the translation 72a5919560421127… (all of the seat's roots in one cut). By AI agents, Wed Nov 11 2026. No macro, syntax, notation, axiom, sorry.
-/
import Derived.Test.YtcnilpdlcmpbbabChecked
import GoSem.Claim
import GoSem.ClaimJoined
import GoSem.ClaimMapViews
import Derived.JoinedTies
import Derived.KernelRfl
namespace Go.Proofs.Ytcnilpdlcmpbbab
/- THE CELL 'sum', in the pinned program and in every row, IS THE sha256 OF THE DUMP (.gsa) THAT YtcnilpdlcmpbbabProg.lean LOADS. Nothing in Lean hashes anything: it is a label: what it is worth is what the hold of that sum in a sandbox is worth. -/
noncomputable def Try.pinned : Pinned := { name := "ytcnilpdlcmpbbab", sum := "72a591956042112762eb3e687bcd3999c7b94346d8b5c782dcfb62ea16dc1cdc", checked := Try.checked }
namespace Rows
def none {H : Type} : Left H := { results := [], args := [] }

/-- 'groupcontrollaw11.SettingsAdjusts': WHATEVER THE INPUT: true; the input reads as it did. -/
def settingsAdjustsSpec : ChangeSpec := { name := "settingsAdjusts", fn := fun _ => fun
  | [d] => { results := [.lit (.bool true)], args := [d] }
  | _ => none }
def settingsAdjustsRow : OpenClaim := { program := "ytcnilpdlcmpbbab", sum := "72a591956042112762eb3e687bcd3999c7b94346d8b5c782dcfb62ea16dc1cdc", func := "groupcontrol/groupcontrollaw11.SettingsAdjusts", spec := "settingsAdjusts", unfollowed := true, recurses := true, apart := false }
def SettingsAdjustsSaid : Prop := settingsAdjustsRow.holds Try.pinned (OpenSpec.ofChange settingsAdjustsSpec)

/-- ITS FALSE NEIGHBOUR: 'it returns false'. Refute it at one input. -/
def settingsAdjustsWrong : ChangeSpec := { name := "settingsAdjusts", fn := fun _ => fun
  | [d] => { results := [.lit (.bool false)], args := [d] }
  | _ => none }
def SettingsAdjustsWrongFalsely : Prop := settingsAdjustsRow.holds Try.pinned (OpenSpec.ofChange settingsAdjustsWrong)

/-- 'groupcontrollaw11.SettingsApart': WHATEVER THE INPUT: true; the input reads as it did. -/
def settingsApartSpec : ChangeSpec := { name := "settingsApart", fn := fun _ => fun
  | [d] => { results := [.lit (.bool true)], args := [d] }
  | _ => none }
def settingsApartRow : OpenClaim := { program := "ytcnilpdlcmpbbab", sum := "72a591956042112762eb3e687bcd3999c7b94346d8b5c782dcfb62ea16dc1cdc", func := "groupcontrol/groupcontrollaw11.SettingsApart", spec := "settingsApart", unfollowed := true, recurses := true, apart := false }
def SettingsApartSaid : Prop := settingsApartRow.holds Try.pinned (OpenSpec.ofChange settingsApartSpec)

/-- ITS FALSE NEIGHBOUR: 'it returns false'. Refute it at one input. -/
def settingsApartWrong : ChangeSpec := { name := "settingsApart", fn := fun _ => fun
  | [d] => { results := [.lit (.bool false)], args := [d] }
  | _ => none }
def SettingsApartWrongFalsely : Prop := settingsApartRow.holds Try.pinned (OpenSpec.ofChange settingsApartWrong)

/-- 'groupcontrollaw11.SettingsChecks': WHATEVER THE INPUT: true; the input reads as it did. -/
def settingsChecksSpec : ChangeSpec := { name := "settingsChecks", fn := fun _ => fun
  | [d1, d2] => { results := [.lit (.bool true)], args := [d1, d2] }
  | _ => none }
def settingsChecksRow : OpenClaim := { program := "ytcnilpdlcmpbbab", sum := "72a591956042112762eb3e687bcd3999c7b94346d8b5c782dcfb62ea16dc1cdc", func := "groupcontrol/groupcontrollaw11.SettingsChecks", spec := "settingsChecks", unfollowed := true, recurses := true, apart := false }
def SettingsChecksSaid : Prop := settingsChecksRow.holds Try.pinned (OpenSpec.ofChange settingsChecksSpec)

/-- ITS FALSE NEIGHBOUR: 'it returns false'. Refute it at one input. -/
def settingsChecksWrong : ChangeSpec := { name := "settingsChecks", fn := fun _ => fun
  | [d1, d2] => { results := [.lit (.bool false)], args := [d1, d2] }
  | _ => none }
def SettingsChecksWrongFalsely : Prop := settingsChecksRow.holds Try.pinned (OpenSpec.ofChange settingsChecksWrong)

/-- 'groupcontrollaw11.SettingsLists': WHATEVER THE INPUT: true; the input reads as it did. -/
def settingsListsSpec : ChangeSpec := { name := "settingsLists", fn := fun _ => fun
  | [d1, d2] => { results := [.lit (.bool true)], args := [d1, d2] }
  | _ => none }
def settingsListsRow : OpenClaim := { program := "ytcnilpdlcmpbbab", sum := "72a591956042112762eb3e687bcd3999c7b94346d8b5c782dcfb62ea16dc1cdc", func := "groupcontrol/groupcontrollaw11.SettingsLists", spec := "settingsLists", unfollowed := true, recurses := true, apart := false }
def SettingsListsSaid : Prop := settingsListsRow.holds Try.pinned (OpenSpec.ofChange settingsListsSpec)

/-- ITS FALSE NEIGHBOUR: 'it returns false'. Refute it at one input. -/
def settingsListsWrong : ChangeSpec := { name := "settingsLists", fn := fun _ => fun
  | [d1, d2] => { results := [.lit (.bool false)], args := [d1, d2] }
  | _ => none }
def SettingsListsWrongFalsely : Prop := settingsListsRow.holds Try.pinned (OpenSpec.ofChange settingsListsWrong)

/-- 'groupcontrollaw11.SettingsSets': WHATEVER THE INPUT: true; the input reads as it did. -/
def settingsSetsSpec : ChangeSpec := { name := "settingsSets", fn := fun _ => fun
  | [d] => { results := [.lit (.bool true)], args := [d] }
  | _ => none }
def settingsSetsRow : OpenClaim := { program := "ytcnilpdlcmpbbab", sum := "72a591956042112762eb3e687bcd3999c7b94346d8b5c782dcfb62ea16dc1cdc", func := "groupcontrol/groupcontrollaw11.SettingsSets", spec := "settingsSets", unfollowed := true, recurses := true, apart := false }
def SettingsSetsSaid : Prop := settingsSetsRow.holds Try.pinned (OpenSpec.ofChange settingsSetsSpec)

/-- ITS FALSE NEIGHBOUR: 'it returns false'. Refute it at one input. -/
def settingsSetsWrong : ChangeSpec := { name := "settingsSets", fn := fun _ => fun
  | [d] => { results := [.lit (.bool false)], args := [d] }
  | _ => none }
def SettingsSetsWrongFalsely : Prop := settingsSetsRow.holds Try.pinned (OpenSpec.ofChange settingsSetsWrong)

/-- 'groupcontrollaw11.SettingsLowest': WHATEVER THE INPUT: true; the input reads as it did. -/
def settingsLowestSpec : ChangeSpec := { name := "settingsLowest", fn := fun _ => fun
  | [d] => { results := [.lit (.bool true)], args := [d] }
  | _ => none }
def settingsLowestRow : OpenClaim := { program := "ytcnilpdlcmpbbab", sum := "72a591956042112762eb3e687bcd3999c7b94346d8b5c782dcfb62ea16dc1cdc", func := "groupcontrol/groupcontrollaw11.SettingsLowest", spec := "settingsLowest", unfollowed := true, recurses := true, apart := false }
def SettingsLowestSaid : Prop := settingsLowestRow.holds Try.pinned (OpenSpec.ofChange settingsLowestSpec)

/-- ITS FALSE NEIGHBOUR: 'it returns false'. Refute it at one input. -/
def settingsLowestWrong : ChangeSpec := { name := "settingsLowest", fn := fun _ => fun
  | [d] => { results := [.lit (.bool false)], args := [d] }
  | _ => none }
def SettingsLowestWrongFalsely : Prop := settingsLowestRow.holds Try.pinned (OpenSpec.ofChange settingsLowestWrong)

/- THE SECOND FORM. 'bulk': how many values and letters a reading holds, each counted each time it is reached (what is shared counts as often as it is met; a slice's spare places count too). A statement '..UptoSaid' is the law's where the arguments, and the package variables that the reading takes, are together of bulk at most 1048576: NARROWER than '..Said'. Prove '..Said' where nothing that the law and all that it calls make is longer than what came in: it says more and counts as full. Else prove '..UptoSaid'. A law counts once. -/
mutual
def uptoBulk {H : Type} : DataW H → Nat
  | .lit (.string bytes) => bytes.length + 1
  | .lit _ => 1
  | .nil => 1
  | .ptr d => uptoBulk d + 1
  | .slice elems spare => uptoBulkAll elems + uptoBulkAll spare + 1
  | .agg parts => uptoBulkAll parts + 1
  | .iface _ d => uptoBulk d + 1
  | .map entries => uptoBulkEntries entries + 1
  | .held _ => 1
def uptoBulkAll {H : Type} : List (DataW H) → Nat
  | [] => 0
  | d :: r => uptoBulk d + uptoBulkAll r
def uptoBulkEntries {H : Type} : List (Lit × DataW H) → Nat
  | [] => 0
  | x :: r => uptoBulkEntry x + uptoBulkEntries r
def uptoBulkEntry {H : Type} : Lit × DataW H → Nat
  | (.string bytes, d) => bytes.length + uptoBulk d + 1
  | (_, d) => uptoBulk d + 1
 end
def uptoSmall : (H : Type) → List (DataW H) → Bool := fun _ ds => decide (uptoBulkAll ds ≤ 1048576)
def OpenSpec.upto (s : _root_.Go.ChangeSpec) : _root_.Go.OpenSpec := { _root_.Go.OpenSpec.ofChange s with cond := some uptoSmall }

/-- 'groupcontrollaw11.SettingsAdjusts', WHERE WHAT IT READS IS OF BULK AT MOST 1048576: true; the input reads as it did. -/
def settingsAdjustsUptoRow : OpenClaim := { program := "ytcnilpdlcmpbbab", sum := "72a591956042112762eb3e687bcd3999c7b94346d8b5c782dcfb62ea16dc1cdc", func := "groupcontrol/groupcontrollaw11.SettingsAdjusts", spec := "settingsAdjusts", unfollowed := true, recurses := true, apart := false, narrowed := true }
def SettingsAdjustsUptoSaid : Prop := settingsAdjustsUptoRow.holds Try.pinned (OpenSpec.upto settingsAdjustsSpec)

/-- 'groupcontrollaw11.SettingsApart', WHERE WHAT IT READS IS OF BULK AT MOST 1048576: true; the input reads as it did. -/
def settingsApartUptoRow : OpenClaim := { program := "ytcnilpdlcmpbbab", sum := "72a591956042112762eb3e687bcd3999c7b94346d8b5c782dcfb62ea16dc1cdc", func := "groupcontrol/groupcontrollaw11.SettingsApart", spec := "settingsApart", unfollowed := true, recurses := true, apart := false, narrowed := true }
def SettingsApartUptoSaid : Prop := settingsApartUptoRow.holds Try.pinned (OpenSpec.upto settingsApartSpec)

/-- 'groupcontrollaw11.SettingsChecks', WHERE WHAT IT READS IS OF BULK AT MOST 1048576: true; the input reads as it did. -/
def settingsChecksUptoRow : OpenClaim := { program := "ytcnilpdlcmpbbab", sum := "72a591956042112762eb3e687bcd3999c7b94346d8b5c782dcfb62ea16dc1cdc", func := "groupcontrol/groupcontrollaw11.SettingsChecks", spec := "settingsChecks", unfollowed := true, recurses := true, apart := false, narrowed := true }
def SettingsChecksUptoSaid : Prop := settingsChecksUptoRow.holds Try.pinned (OpenSpec.upto settingsChecksSpec)

/-- 'groupcontrollaw11.SettingsLists', WHERE WHAT IT READS IS OF BULK AT MOST 1048576: true; the input reads as it did. -/
def settingsListsUptoRow : OpenClaim := { program := "ytcnilpdlcmpbbab", sum := "72a591956042112762eb3e687bcd3999c7b94346d8b5c782dcfb62ea16dc1cdc", func := "groupcontrol/groupcontrollaw11.SettingsLists", spec := "settingsLists", unfollowed := true, recurses := true, apart := false, narrowed := true }
def SettingsListsUptoSaid : Prop := settingsListsUptoRow.holds Try.pinned (OpenSpec.upto settingsListsSpec)

/-- 'groupcontrollaw11.SettingsSets', WHERE WHAT IT READS IS OF BULK AT MOST 1048576: true; the input reads as it did. -/
def settingsSetsUptoRow : OpenClaim := { program := "ytcnilpdlcmpbbab", sum := "72a591956042112762eb3e687bcd3999c7b94346d8b5c782dcfb62ea16dc1cdc", func := "groupcontrol/groupcontrollaw11.SettingsSets", spec := "settingsSets", unfollowed := true, recurses := true, apart := false, narrowed := true }
def SettingsSetsUptoSaid : Prop := settingsSetsUptoRow.holds Try.pinned (OpenSpec.upto settingsSetsSpec)

/-- 'groupcontrollaw11.SettingsLowest', WHERE WHAT IT READS IS OF BULK AT MOST 1048576: true; the input reads as it did. -/
def settingsLowestUptoRow : OpenClaim := { program := "ytcnilpdlcmpbbab", sum := "72a591956042112762eb3e687bcd3999c7b94346d8b5c782dcfb62ea16dc1cdc", func := "groupcontrol/groupcontrollaw11.SettingsLowest", spec := "settingsLowest", unfollowed := true, recurses := true, apart := false, narrowed := true }
def SettingsLowestUptoSaid : Prop := settingsLowestUptoRow.holds Try.pinned (OpenSpec.upto settingsLowestSpec)

end Rows
end Go.Proofs.Ytcnilpdlcmpbbab
