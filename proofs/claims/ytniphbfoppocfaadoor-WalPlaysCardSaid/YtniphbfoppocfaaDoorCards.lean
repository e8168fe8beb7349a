/-
  DERIVED. GIVEN WITH THE SEED: THE CARDS: each row of YtniphbfoppocfaaDoorRows.lean that lists a variable, with what it lists TIED to the program's text (the seventh form; the later family's looks); each row that meets fmt, with fmt's text TOLD by the authors' own Lean function (tested against real Go, not proved from fmt's source: count such statements apart). THE CARD IS WHAT COUNTS. Prove the row's statement (the work); the ties are given (YtniphbfoppocfaaDoorTie.lean); close each card by the builder's one call (the guide's Derived/Test/ToyasCard.lean, 'card_holds'). Laid BY PROGRAM, IN A SANDBOX (cutbox-door.mjs). By AI agents, Wed Nov 11 2026. No macro, syntax, notation, axiom, sorry.
-/
import Derived.Test.YtniphbfoppocfaaDoorRows
import GoSem.ClaimSeven
namespace Go.Proofs.YtniphbfoppocfaaDoor
namespace Rows

/-- THE TIED CARD OF 'voklaw15.WalPlays'. -/
def walPlaysCard : Claim7 := { stood := { row := walPlaysRow, standIns := [], harness := (true, "ab182c33fe121cb88159394de471097ce20795ed77e057e16098fd109818f911"), looks := false }, kinds := [], alts := [], laidByText := true, laidKinds := [.data], laidTests := true, laidLooks := .later }
def WalPlaysCardSaid : Prop := Claim7.holds Tryd.pinned (.plain (OpenSpec.ofChange walPlaysSpec)) walPlaysCard

/-- THE TIED CARD OF 'voklaw15.WalKeeps'. -/
def walKeepsCard : Claim7 := { stood := { row := walKeepsRow, standIns := [], harness := (true, "ab182c33fe121cb88159394de471097ce20795ed77e057e16098fd109818f911"), looks := false }, kinds := [], alts := [], laidByText := true, laidKinds := [.data], laidTests := true, laidLooks := .later }
def WalKeepsCardSaid : Prop := Claim7.holds Tryd.pinned (.plain (OpenSpec.ofChange walKeepsSpec)) walKeepsCard

/-- THE TIED CARD OF 'voklaw15.WalFile'. -/
def walFileCard : Claim7 := { stood := { row := walFileRow, standIns := [], harness := (true, "ab182c33fe121cb88159394de471097ce20795ed77e057e16098fd109818f911"), looks := false }, kinds := [], alts := [], laidByText := true, laidKinds := [.data], laidTests := true, laidLooks := .later }
def WalFileCardSaid : Prop := Claim7.holds Tryd.pinned (.plain (OpenSpec.ofChange walFileSpec)) walFileCard

/-- THE TIED CARD OF 'voklaw15.WalAgain'. -/
def walAgainCard : Claim7 := { stood := { row := walAgainRow, standIns := [], harness := (true, "ab182c33fe121cb88159394de471097ce20795ed77e057e16098fd109818f911"), looks := false }, kinds := [], alts := [], laidByText := true, laidKinds := [.data], laidTests := true, laidLooks := .later }
def WalAgainCardSaid : Prop := Claim7.holds Tryd.pinned (.plain (OpenSpec.ofChange walAgainSpec)) walAgainCard

/-- THE TIED CARD OF 'voklaw15.WalLong'. -/
def walLongCard : Claim7 := { stood := { row := walLongRow, standIns := [], harness := (true, "ab182c33fe121cb88159394de471097ce20795ed77e057e16098fd109818f911"), looks := false }, kinds := [], alts := [], laidByText := true, laidKinds := [.data], laidTests := true, laidLooks := .later }
def WalLongCardSaid : Prop := Claim7.holds Tryd.pinned (.plain (OpenSpec.ofChange walLongSpec)) walLongCard

/-- THE SECOND FORM's CARD OF 'voklaw15.WalPlays'. -/
def walPlaysUptoCard : Claim7 := { stood := { row := walPlaysUptoRow, standIns := [], harness := (true, "ab182c33fe121cb88159394de471097ce20795ed77e057e16098fd109818f911"), looks := false }, kinds := [], alts := [], laidByText := true, laidKinds := [.data], laidTests := true, laidLooks := .later }
def WalPlaysUptoCardSaid : Prop := Claim7.holds Tryd.pinned (.plain (OpenSpec.upto walPlaysSpec)) walPlaysUptoCard

/-- THE SECOND FORM's CARD OF 'voklaw15.WalKeeps'. -/
def walKeepsUptoCard : Claim7 := { stood := { row := walKeepsUptoRow, standIns := [], harness := (true, "ab182c33fe121cb88159394de471097ce20795ed77e057e16098fd109818f911"), looks := false }, kinds := [], alts := [], laidByText := true, laidKinds := [.data], laidTests := true, laidLooks := .later }
def WalKeepsUptoCardSaid : Prop := Claim7.holds Tryd.pinned (.plain (OpenSpec.upto walKeepsSpec)) walKeepsUptoCard

/-- THE SECOND FORM's CARD OF 'voklaw15.WalFile'. -/
def walFileUptoCard : Claim7 := { stood := { row := walFileUptoRow, standIns := [], harness := (true, "ab182c33fe121cb88159394de471097ce20795ed77e057e16098fd109818f911"), looks := false }, kinds := [], alts := [], laidByText := true, laidKinds := [.data], laidTests := true, laidLooks := .later }
def WalFileUptoCardSaid : Prop := Claim7.holds Tryd.pinned (.plain (OpenSpec.upto walFileSpec)) walFileUptoCard

/-- THE SECOND FORM's CARD OF 'voklaw15.WalAgain'. -/
def walAgainUptoCard : Claim7 := { stood := { row := walAgainUptoRow, standIns := [], harness := (true, "ab182c33fe121cb88159394de471097ce20795ed77e057e16098fd109818f911"), looks := false }, kinds := [], alts := [], laidByText := true, laidKinds := [.data], laidTests := true, laidLooks := .later }
def WalAgainUptoCardSaid : Prop := Claim7.holds Tryd.pinned (.plain (OpenSpec.upto walAgainSpec)) walAgainUptoCard

/-- THE SECOND FORM's CARD OF 'voklaw15.WalLong'. -/
def walLongUptoCard : Claim7 := { stood := { row := walLongUptoRow, standIns := [], harness := (true, "ab182c33fe121cb88159394de471097ce20795ed77e057e16098fd109818f911"), looks := false }, kinds := [], alts := [], laidByText := true, laidKinds := [.data], laidTests := true, laidLooks := .later }
def WalLongUptoCardSaid : Prop := Claim7.holds Tryd.pinned (.plain (OpenSpec.upto walLongSpec)) walLongUptoCard
end Rows
end Go.Proofs.YtniphbfoppocfaaDoor
