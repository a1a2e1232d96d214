/-
  DERIVED. GIVEN WITH THE SEED: THE CARDS: each row of YtfkcolodbjonkaaDoorRows.lean that lists a variable, with what it lists TIED to the program's text (the seventh form; the later family's looks); each row that meets fmt, with fmt's text TOLD by the authors' own Lean function (tested against real Go, not proved from fmt's source: count such statements apart). THE CARD IS WHAT COUNTS. Prove the row's statement (the work); the ties are given (YtfkcolodbjonkaaDoorTie.lean); close each card by the builder's one call (the guide's Derived/Test/ToyasCard.lean, 'card_holds'). Laid BY PROGRAM, IN A SANDBOX (cutbox-door.mjs). By AI agents, Wed Nov 11 2026. No macro, syntax, notation, axiom, sorry.
-/
import Derived.Test.YtfkcolodbjonkaaDoorRows
import GoSem.ClaimSeven
namespace Go.Proofs.YtfkcolodbjonkaaDoor
namespace Rows

/-- THE TIED CARD OF 'groupcontrollaw1.NameLimits'. -/
def nameLimitsCard : Claim7 := { stood := { row := nameLimitsRow, standIns := [], harness := (true, "ce732e053800988399965fc123b1147f0ad7936221434bee44a79624eb72c174"), looks := false }, kinds := [], alts := [], laidByText := true, laidKinds := [.data, .pinned], laidTests := true, laidLooks := .later }
def NameLimitsCardSaid : Prop := Claim7.holds Tryd.pinned (.plain (OpenSpec.ofChange nameLimitsSpec)) nameLimitsCard

/-- THE TIED CARD OF 'groupcontrollaw1.NameLattice'. -/
def nameLatticeCard : Claim7 := { stood := { row := nameLatticeRow, standIns := [], harness := (true, "ce732e053800988399965fc123b1147f0ad7936221434bee44a79624eb72c174"), looks := false }, kinds := [], alts := [], laidByText := true, laidKinds := [.data, .pinned], laidTests := true, laidLooks := .later }
def NameLatticeCardSaid : Prop := Claim7.holds Tryd.pinned (.plain (OpenSpec.ofChange nameLatticeSpec)) nameLatticeCard

/-- THE TIED CARD OF 'groupcontrollaw1.NamePaths'. -/
def namePathsCard : Claim7 := { stood := { row := namePathsRow, standIns := [], harness := (true, "ce732e053800988399965fc123b1147f0ad7936221434bee44a79624eb72c174"), looks := false }, kinds := [], alts := [], laidByText := true, laidKinds := [.data, .pinned], laidTests := true, laidLooks := .later }
def NamePathsCardSaid : Prop := Claim7.holds Tryd.pinned (.plain (OpenSpec.ofChange namePathsSpec)) namePathsCard

/-- THE TIED CARD OF 'groupcontrollaw1.NameOrders'. -/
def nameOrdersCard : Claim7 := { stood := { row := nameOrdersRow, standIns := [], harness := (true, "ce732e053800988399965fc123b1147f0ad7936221434bee44a79624eb72c174"), looks := false }, kinds := [], alts := [], laidByText := true, laidKinds := [.data, .pinned], laidTests := true, laidLooks := .later }
def NameOrdersCardSaid : Prop := Claim7.holds Tryd.pinned (.plain (OpenSpec.ofChange nameOrdersSpec)) nameOrdersCard

/-- THE TIED CARD OF 'groupcontrollaw1.NameBack'. -/
def nameBackCard : Claim7 := { stood := { row := nameBackRow, standIns := [], harness := (true, "ce732e053800988399965fc123b1147f0ad7936221434bee44a79624eb72c174"), looks := false }, kinds := [], alts := [], laidByText := true, laidKinds := [.data, .pinned], laidTests := true, laidLooks := .later }
def NameBackCardSaid : Prop := Claim7.holds Tryd.pinned (.plain (OpenSpec.ofChange nameBackSpec)) nameBackCard

/-- THE TIED CARD OF 'groupcontrollaw1.NameTotal'. -/
def nameTotalCard : Claim7 := { stood := { row := nameTotalRow, standIns := [], harness := (true, "ce732e053800988399965fc123b1147f0ad7936221434bee44a79624eb72c174"), looks := false }, kinds := [], alts := [], laidByText := true, laidKinds := [.data, .pinned], laidTests := true, laidLooks := .later }
def NameTotalCardSaid : Prop := Claim7.holds Tryd.pinned (.plain (OpenSpec.ofChange nameTotalSpec)) nameTotalCard

/-- THE SECOND FORM's CARD OF 'groupcontrollaw1.NameLimits'. -/
def nameLimitsUptoCard : Claim7 := { stood := { row := nameLimitsUptoRow, standIns := [], harness := (true, "ce732e053800988399965fc123b1147f0ad7936221434bee44a79624eb72c174"), looks := false }, kinds := [], alts := [], laidByText := true, laidKinds := [.data, .pinned], laidTests := true, laidLooks := .later }
def NameLimitsUptoCardSaid : Prop := Claim7.holds Tryd.pinned (.plain (OpenSpec.upto nameLimitsSpec)) nameLimitsUptoCard

/-- THE SECOND FORM's CARD OF 'groupcontrollaw1.NameLattice'. -/
def nameLatticeUptoCard : Claim7 := { stood := { row := nameLatticeUptoRow, standIns := [], harness := (true, "ce732e053800988399965fc123b1147f0ad7936221434bee44a79624eb72c174"), looks := false }, kinds := [], alts := [], laidByText := true, laidKinds := [.data, .pinned], laidTests := true, laidLooks := .later }
def NameLatticeUptoCardSaid : Prop := Claim7.holds Tryd.pinned (.plain (OpenSpec.upto nameLatticeSpec)) nameLatticeUptoCard

/-- THE SECOND FORM's CARD OF 'groupcontrollaw1.NamePaths'. -/
def namePathsUptoCard : Claim7 := { stood := { row := namePathsUptoRow, standIns := [], harness := (true, "ce732e053800988399965fc123b1147f0ad7936221434bee44a79624eb72c174"), looks := false }, kinds := [], alts := [], laidByText := true, laidKinds := [.data, .pinned], laidTests := true, laidLooks := .later }
def NamePathsUptoCardSaid : Prop := Claim7.holds Tryd.pinned (.plain (OpenSpec.upto namePathsSpec)) namePathsUptoCard

/-- THE SECOND FORM's CARD OF 'groupcontrollaw1.NameOrders'. -/
def nameOrdersUptoCard : Claim7 := { stood := { row := nameOrdersUptoRow, standIns := [], harness := (true, "ce732e053800988399965fc123b1147f0ad7936221434bee44a79624eb72c174"), looks := false }, kinds := [], alts := [], laidByText := true, laidKinds := [.data, .pinned], laidTests := true, laidLooks := .later }
def NameOrdersUptoCardSaid : Prop := Claim7.holds Tryd.pinned (.plain (OpenSpec.upto nameOrdersSpec)) nameOrdersUptoCard

/-- THE SECOND FORM's CARD OF 'groupcontrollaw1.NameBack'. -/
def nameBackUptoCard : Claim7 := { stood := { row := nameBackUptoRow, standIns := [], harness := (true, "ce732e053800988399965fc123b1147f0ad7936221434bee44a79624eb72c174"), looks := false }, kinds := [], alts := [], laidByText := true, laidKinds := [.data, .pinned], laidTests := true, laidLooks := .later }
def NameBackUptoCardSaid : Prop := Claim7.holds Tryd.pinned (.plain (OpenSpec.upto nameBackSpec)) nameBackUptoCard

/-- THE SECOND FORM's CARD OF 'groupcontrollaw1.NameTotal'. -/
def nameTotalUptoCard : Claim7 := { stood := { row := nameTotalUptoRow, standIns := [], harness := (true, "ce732e053800988399965fc123b1147f0ad7936221434bee44a79624eb72c174"), looks := false }, kinds := [], alts := [], laidByText := true, laidKinds := [.data, .pinned], laidTests := true, laidLooks := .later }
def NameTotalUptoCardSaid : Prop := Claim7.holds Tryd.pinned (.plain (OpenSpec.upto nameTotalSpec)) nameTotalUptoCard
end Rows
end Go.Proofs.YtfkcolodbjonkaaDoor
