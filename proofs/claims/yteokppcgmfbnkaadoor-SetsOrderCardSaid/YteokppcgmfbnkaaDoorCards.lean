/-
  DERIVED. GIVEN WITH THE SEED: THE CARDS: each row of YteokppcgmfbnkaaDoorRows.lean that lists a variable, with what it lists TIED to the program's text (the seventh form; the later family's looks); each row that meets fmt, with fmt's text TOLD by the authors' own Lean function (tested against real Go, not proved from fmt's source: count such statements apart). THE CARD IS WHAT COUNTS. Prove the row's statement (the work); the ties are given (YteokppcgmfbnkaaDoorTie.lean); close each card by the builder's one call (the guide's Derived/Test/ToyasCard.lean, 'card_holds'). Laid BY PROGRAM, IN A SANDBOX (cutbox-door.mjs). By AI agents, Wed Nov 11 2026. No macro, syntax, notation, axiom, sorry.
-/
import Derived.Test.YteokppcgmfbnkaaDoorRows
import GoSem.ClaimSeven
namespace Go.Proofs.YteokppcgmfbnkaaDoor
namespace Rows

/-- THE TIED CARD OF 'groupcontrollaw3.SetsOrder'. -/
def setsOrderCard : Claim7 := { stood := { row := setsOrderRow, standIns := [], harness := (true, "a2aacf11f888f49b6cb3c81b6fac70a68c2dbe756ca7b81b24d6f6f96b753816"), looks := false }, kinds := [], alts := [], laidByText := true, laidKinds := [.data, .data, .data, .data, .pinned], laidTests := true, laidLooks := .later }
def SetsOrderCardSaid : Prop := Claim7.holds Tryd.pinned (.plain (OpenSpec.ofChange setsOrderSpec)) setsOrderCard

/-- THE TIED CARD OF 'groupcontrollaw3.SetsShort'. -/
def setsShortCard : Claim7 := { stood := { row := setsShortRow, standIns := [], harness := (true, "a2aacf11f888f49b6cb3c81b6fac70a68c2dbe756ca7b81b24d6f6f96b753816"), looks := false }, kinds := [], alts := [], laidByText := true, laidKinds := [.data, .data, .data, .data, .pinned], laidTests := true, laidLooks := .later }
def SetsShortCardSaid : Prop := Claim7.holds Tryd.pinned (.plain (OpenSpec.ofChange setsShortSpec)) setsShortCard

/-- THE TIED CARD OF 'groupcontrollaw3.SetsBack'. -/
def setsBackCard : Claim7 := { stood := { row := setsBackRow, standIns := [], harness := (true, "a2aacf11f888f49b6cb3c81b6fac70a68c2dbe756ca7b81b24d6f6f96b753816"), looks := false }, kinds := [], alts := [], laidByText := true, laidKinds := [.data, .data, .data, .data, .pinned], laidTests := true, laidLooks := .later }
def SetsBackCardSaid : Prop := Claim7.holds Tryd.pinned (.plain (OpenSpec.ofChange setsBackSpec)) setsBackCard

/-- THE TIED CARD OF 'groupcontrollaw4.KeyedLimits'. -/
def keyedLimitsCard : Claim7 := { stood := { row := keyedLimitsRow, standIns := [], harness := (true, "a2aacf11f888f49b6cb3c81b6fac70a68c2dbe756ca7b81b24d6f6f96b753816"), looks := false }, kinds := [], alts := [], laidByText := true, laidKinds := [.data, .pinned], laidTests := true, laidLooks := .later }
def KeyedLimitsCardSaid : Prop := Claim7.holds Tryd.pinned (.plain (OpenSpec.ofChange keyedLimitsSpec)) keyedLimitsCard

/-- THE TIED CARD OF 'groupcontrollaw4.KeyedSets'. -/
def keyedSetsCard : Claim7 := { stood := { row := keyedSetsRow, standIns := [], harness := (true, "a2aacf11f888f49b6cb3c81b6fac70a68c2dbe756ca7b81b24d6f6f96b753816"), looks := false }, kinds := [], alts := [], laidByText := true, laidKinds := [.data, .pinned], laidTests := true, laidLooks := .later }
def KeyedSetsCardSaid : Prop := Claim7.holds Tryd.pinned (.plain (OpenSpec.ofChange keyedSetsSpec)) keyedSetsCard

/-- THE SECOND FORM's CARD OF 'groupcontrollaw3.SetsOrder'. -/
def setsOrderUptoCard : Claim7 := { stood := { row := setsOrderUptoRow, standIns := [], harness := (true, "a2aacf11f888f49b6cb3c81b6fac70a68c2dbe756ca7b81b24d6f6f96b753816"), looks := false }, kinds := [], alts := [], laidByText := true, laidKinds := [.data, .data, .data, .data, .pinned], laidTests := true, laidLooks := .later }
def SetsOrderUptoCardSaid : Prop := Claim7.holds Tryd.pinned (.plain (OpenSpec.upto setsOrderSpec)) setsOrderUptoCard

/-- THE SECOND FORM's CARD OF 'groupcontrollaw3.SetsShort'. -/
def setsShortUptoCard : Claim7 := { stood := { row := setsShortUptoRow, standIns := [], harness := (true, "a2aacf11f888f49b6cb3c81b6fac70a68c2dbe756ca7b81b24d6f6f96b753816"), looks := false }, kinds := [], alts := [], laidByText := true, laidKinds := [.data, .data, .data, .data, .pinned], laidTests := true, laidLooks := .later }
def SetsShortUptoCardSaid : Prop := Claim7.holds Tryd.pinned (.plain (OpenSpec.upto setsShortSpec)) setsShortUptoCard

/-- THE SECOND FORM's CARD OF 'groupcontrollaw3.SetsBack'. -/
def setsBackUptoCard : Claim7 := { stood := { row := setsBackUptoRow, standIns := [], harness := (true, "a2aacf11f888f49b6cb3c81b6fac70a68c2dbe756ca7b81b24d6f6f96b753816"), looks := false }, kinds := [], alts := [], laidByText := true, laidKinds := [.data, .data, .data, .data, .pinned], laidTests := true, laidLooks := .later }
def SetsBackUptoCardSaid : Prop := Claim7.holds Tryd.pinned (.plain (OpenSpec.upto setsBackSpec)) setsBackUptoCard

/-- THE SECOND FORM's CARD OF 'groupcontrollaw4.KeyedLimits'. -/
def keyedLimitsUptoCard : Claim7 := { stood := { row := keyedLimitsUptoRow, standIns := [], harness := (true, "a2aacf11f888f49b6cb3c81b6fac70a68c2dbe756ca7b81b24d6f6f96b753816"), looks := false }, kinds := [], alts := [], laidByText := true, laidKinds := [.data, .pinned], laidTests := true, laidLooks := .later }
def KeyedLimitsUptoCardSaid : Prop := Claim7.holds Tryd.pinned (.plain (OpenSpec.upto keyedLimitsSpec)) keyedLimitsUptoCard

/-- THE SECOND FORM's CARD OF 'groupcontrollaw4.KeyedSets'. -/
def keyedSetsUptoCard : Claim7 := { stood := { row := keyedSetsUptoRow, standIns := [], harness := (true, "a2aacf11f888f49b6cb3c81b6fac70a68c2dbe756ca7b81b24d6f6f96b753816"), looks := false }, kinds := [], alts := [], laidByText := true, laidKinds := [.data, .pinned], laidTests := true, laidLooks := .later }
def KeyedSetsUptoCardSaid : Prop := Claim7.holds Tryd.pinned (.plain (OpenSpec.upto keyedSetsSpec)) keyedSetsUptoCard
end Rows
end Go.Proofs.YteokppcgmfbnkaaDoor
