/-
  DERIVED. GIVEN WITH THE SEED: THE CARDS: each row of YtpaijhmbfljfmaaDoorRows.lean that lists a variable, with what it lists TIED to the program's text (the seventh form; the later family's looks); each row that meets fmt, with fmt's text TOLD by the authors' own Lean function (tested against real Go, not proved from fmt's source: count such statements apart). THE CARD IS WHAT COUNTS. Prove the row's statement (the work); the ties are given (YtpaijhmbfljfmaaDoorTie.lean); close each card by the builder's one call (the guide's Derived/Test/ToyasCard.lean, 'card_holds'). Laid BY PROGRAM, IN A SANDBOX (cutbox-door.mjs). By AI agents, Wed Nov 11 2026. No macro, syntax, notation, axiom, sorry.
-/
import Derived.Test.YtpaijhmbfljfmaaDoorRows
import GoSem.ClaimSeven
namespace Go.Proofs.YtpaijhmbfljfmaaDoor
namespace Rows

/-- THE TIED CARD OF 'wharfingerlaw01.SumOf'. -/
def sumOfCard : Claim7 := { stood := { row := sumOfRow, standIns := [], harness := (true, "3df6c6d3144085352dafa9489c2036d01acbd80a73ed8a2d9d4dc652bdea38a1"), looks := true }, kinds := [], alts := [], laidByText := true, laidKinds := [.data, .data], laidTests := true, laidLooks := .later }
def SumOfCardSaid : Prop := Claim7.holds Tryd.pinned (.plain (OpenSpec.ofChange sumOfSpec)) sumOfCard

/-- THE TIED CARD OF 'wharfingerlaw01.SumMac'. -/
def sumMacCard : Claim7 := { stood := { row := sumMacRow, standIns := [], harness := (true, "3df6c6d3144085352dafa9489c2036d01acbd80a73ed8a2d9d4dc652bdea38a1"), looks := true }, kinds := [], alts := [], laidByText := true, laidKinds := [.data, .data], laidTests := true, laidLooks := .later }
def SumMacCardSaid : Prop := Claim7.holds Tryd.pinned (.plain (OpenSpec.ofChange sumMacSpec)) sumMacCard

/-- THE TIED CARD OF 'wharfingerlaw05.FeedSame'. -/
def feedSameCard : Claim7 := { stood := { row := feedSameRow, standIns := [], harness := (true, "3df6c6d3144085352dafa9489c2036d01acbd80a73ed8a2d9d4dc652bdea38a1"), looks := true }, kinds := [], alts := [], laidByText := true, laidKinds := [.handle], laidTests := true, laidLooks := .later }
def FeedSameCardSaid : Prop := Claim7.holds Tryd.pinned (.plain (OpenSpec.ofChange feedSameSpec)) feedSameCard

/-- THE TIED CARD OF 'wharfingerlaw05.FeedWrong'. -/
def feedWrongCard : Claim7 := { stood := { row := feedWrongRow, standIns := [], harness := (true, "3df6c6d3144085352dafa9489c2036d01acbd80a73ed8a2d9d4dc652bdea38a1"), looks := true }, kinds := [], alts := [], laidByText := true, laidKinds := [.handle], laidTests := true, laidLooks := .later }
def FeedWrongCardSaid : Prop := Claim7.holds Tryd.pinned (.plain (OpenSpec.ofChange feedWrongSpec)) feedWrongCard

/-- THE TIED CARD OF 'wharfingerlaw09.PathChecks'. -/
def pathChecksCard : Claim7 := { stood := { row := pathChecksRow, standIns := [], harness := (true, "3df6c6d3144085352dafa9489c2036d01acbd80a73ed8a2d9d4dc652bdea38a1"), looks := true }, kinds := [], alts := [], laidByText := true, laidKinds := [.data, .handle, .pinned], laidTests := true, laidLooks := .later }
def PathChecksCardSaid : Prop := Claim7.holds Tryd.pinned (.plain (OpenSpec.ofChange pathChecksSpec)) pathChecksCard

/-- THE TIED CARD OF 'wharfingerlaw09.PathJoins'. -/
def pathJoinsCard : Claim7 := { stood := { row := pathJoinsRow, standIns := [], harness := (true, "3df6c6d3144085352dafa9489c2036d01acbd80a73ed8a2d9d4dc652bdea38a1"), looks := true }, kinds := [], alts := [], laidByText := true, laidKinds := [.data, .handle, .pinned], laidTests := true, laidLooks := .later }
def PathJoinsCardSaid : Prop := Claim7.holds Tryd.pinned (.plain (OpenSpec.ofChange pathJoinsSpec)) pathJoinsCard

/-- THE TIED CARD OF 'wharfingerlaw09.PathBeneath'. -/
def pathBeneathCard : Claim7 := { stood := { row := pathBeneathRow, standIns := [], harness := (true, "3df6c6d3144085352dafa9489c2036d01acbd80a73ed8a2d9d4dc652bdea38a1"), looks := true }, kinds := [], alts := [], laidByText := true, laidKinds := [.data, .handle, .pinned], laidTests := true, laidLooks := .later }
def PathBeneathCardSaid : Prop := Claim7.holds Tryd.pinned (.plain (OpenSpec.ofChange pathBeneathSpec)) pathBeneathCard

/-- THE TIED CARD OF 'wharfingerlaw09.PathSets'. -/
def pathSetsCard : Claim7 := { stood := { row := pathSetsRow, standIns := [], harness := (true, "3df6c6d3144085352dafa9489c2036d01acbd80a73ed8a2d9d4dc652bdea38a1"), looks := true }, kinds := [], alts := [], laidByText := true, laidKinds := [.data, .handle, .pinned], laidTests := true, laidLooks := .later }
def PathSetsCardSaid : Prop := Claim7.holds Tryd.pinned (.plain (OpenSpec.ofChange pathSetsSpec)) pathSetsCard

/-- THE TIED CARD OF 'wharfingerlaw09.PathShort'. -/
def pathShortCard : Claim7 := { stood := { row := pathShortRow, standIns := [], harness := (true, "3df6c6d3144085352dafa9489c2036d01acbd80a73ed8a2d9d4dc652bdea38a1"), looks := true }, kinds := [], alts := [], laidByText := true, laidKinds := [.data, .handle, .pinned], laidTests := true, laidLooks := .later }
def PathShortCardSaid : Prop := Claim7.holds Tryd.pinned (.plain (OpenSpec.ofChange pathShortSpec)) pathShortCard

/-- THE TIED CARD OF 'wharfingerlaw09.PathBytes'. -/
def pathBytesCard : Claim7 := { stood := { row := pathBytesRow, standIns := [], harness := (true, "3df6c6d3144085352dafa9489c2036d01acbd80a73ed8a2d9d4dc652bdea38a1"), looks := true }, kinds := [], alts := [], laidByText := true, laidKinds := [.data, .handle, .pinned], laidTests := true, laidLooks := .later }
def PathBytesCardSaid : Prop := Claim7.holds Tryd.pinned (.plain (OpenSpec.ofChange pathBytesSpec)) pathBytesCard

/-- THE TIED CARD OF 'wharfingerlaw09.PathLimits'. -/
def pathLimitsCard : Claim7 := { stood := { row := pathLimitsRow, standIns := [], harness := (true, "3df6c6d3144085352dafa9489c2036d01acbd80a73ed8a2d9d4dc652bdea38a1"), looks := true }, kinds := [], alts := [], laidByText := true, laidKinds := [.data, .handle, .pinned], laidTests := true, laidLooks := .later }
def PathLimitsCardSaid : Prop := Claim7.holds Tryd.pinned (.plain (OpenSpec.ofChange pathLimitsSpec)) pathLimitsCard

/-- THE TIED CARD OF 'wharfingertop.WholeFramed'. -/
def wholeFramedCard : Claim7 := { stood := { row := wholeFramedRow, standIns := [], harness := (true, "3df6c6d3144085352dafa9489c2036d01acbd80a73ed8a2d9d4dc652bdea38a1"), looks := true }, kinds := [], alts := [], laidByText := true, laidKinds := [.data, .data], laidTests := true, laidLooks := .later }
def WholeFramedCardSaid : Prop := Claim7.holds Tryd.pinned (.plain (OpenSpec.ofChange wholeFramedSpec)) wholeFramedCard

/-- THE SECOND FORM's CARD OF 'wharfingerlaw01.SumOf'. -/
def sumOfUptoCard : Claim7 := { stood := { row := sumOfUptoRow, standIns := [], harness := (true, "3df6c6d3144085352dafa9489c2036d01acbd80a73ed8a2d9d4dc652bdea38a1"), looks := true }, kinds := [], alts := [], laidByText := true, laidKinds := [.data, .data], laidTests := true, laidLooks := .later }
def SumOfUptoCardSaid : Prop := Claim7.holds Tryd.pinned (.plain (OpenSpec.upto sumOfSpec)) sumOfUptoCard

/-- THE SECOND FORM's CARD OF 'wharfingerlaw01.SumMac'. -/
def sumMacUptoCard : Claim7 := { stood := { row := sumMacUptoRow, standIns := [], harness := (true, "3df6c6d3144085352dafa9489c2036d01acbd80a73ed8a2d9d4dc652bdea38a1"), looks := true }, kinds := [], alts := [], laidByText := true, laidKinds := [.data, .data], laidTests := true, laidLooks := .later }
def SumMacUptoCardSaid : Prop := Claim7.holds Tryd.pinned (.plain (OpenSpec.upto sumMacSpec)) sumMacUptoCard

/-- THE SECOND FORM's CARD OF 'wharfingerlaw05.FeedSame'. -/
def feedSameUptoCard : Claim7 := { stood := { row := feedSameUptoRow, standIns := [], harness := (true, "3df6c6d3144085352dafa9489c2036d01acbd80a73ed8a2d9d4dc652bdea38a1"), looks := true }, kinds := [], alts := [], laidByText := true, laidKinds := [.handle], laidTests := true, laidLooks := .later }
def FeedSameUptoCardSaid : Prop := Claim7.holds Tryd.pinned (.plain (OpenSpec.upto feedSameSpec)) feedSameUptoCard

/-- THE SECOND FORM's CARD OF 'wharfingerlaw05.FeedWrong'. -/
def feedWrongUptoCard : Claim7 := { stood := { row := feedWrongUptoRow, standIns := [], harness := (true, "3df6c6d3144085352dafa9489c2036d01acbd80a73ed8a2d9d4dc652bdea38a1"), looks := true }, kinds := [], alts := [], laidByText := true, laidKinds := [.handle], laidTests := true, laidLooks := .later }
def FeedWrongUptoCardSaid : Prop := Claim7.holds Tryd.pinned (.plain (OpenSpec.upto feedWrongSpec)) feedWrongUptoCard

/-- THE SECOND FORM's CARD OF 'wharfingerlaw09.PathChecks'. -/
def pathChecksUptoCard : Claim7 := { stood := { row := pathChecksUptoRow, standIns := [], harness := (true, "3df6c6d3144085352dafa9489c2036d01acbd80a73ed8a2d9d4dc652bdea38a1"), looks := true }, kinds := [], alts := [], laidByText := true, laidKinds := [.data, .handle, .pinned], laidTests := true, laidLooks := .later }
def PathChecksUptoCardSaid : Prop := Claim7.holds Tryd.pinned (.plain (OpenSpec.upto pathChecksSpec)) pathChecksUptoCard

/-- THE SECOND FORM's CARD OF 'wharfingerlaw09.PathJoins'. -/
def pathJoinsUptoCard : Claim7 := { stood := { row := pathJoinsUptoRow, standIns := [], harness := (true, "3df6c6d3144085352dafa9489c2036d01acbd80a73ed8a2d9d4dc652bdea38a1"), looks := true }, kinds := [], alts := [], laidByText := true, laidKinds := [.data, .handle, .pinned], laidTests := true, laidLooks := .later }
def PathJoinsUptoCardSaid : Prop := Claim7.holds Tryd.pinned (.plain (OpenSpec.upto pathJoinsSpec)) pathJoinsUptoCard

/-- THE SECOND FORM's CARD OF 'wharfingerlaw09.PathBeneath'. -/
def pathBeneathUptoCard : Claim7 := { stood := { row := pathBeneathUptoRow, standIns := [], harness := (true, "3df6c6d3144085352dafa9489c2036d01acbd80a73ed8a2d9d4dc652bdea38a1"), looks := true }, kinds := [], alts := [], laidByText := true, laidKinds := [.data, .handle, .pinned], laidTests := true, laidLooks := .later }
def PathBeneathUptoCardSaid : Prop := Claim7.holds Tryd.pinned (.plain (OpenSpec.upto pathBeneathSpec)) pathBeneathUptoCard

/-- THE SECOND FORM's CARD OF 'wharfingerlaw09.PathSets'. -/
def pathSetsUptoCard : Claim7 := { stood := { row := pathSetsUptoRow, standIns := [], harness := (true, "3df6c6d3144085352dafa9489c2036d01acbd80a73ed8a2d9d4dc652bdea38a1"), looks := true }, kinds := [], alts := [], laidByText := true, laidKinds := [.data, .handle, .pinned], laidTests := true, laidLooks := .later }
def PathSetsUptoCardSaid : Prop := Claim7.holds Tryd.pinned (.plain (OpenSpec.upto pathSetsSpec)) pathSetsUptoCard

/-- THE SECOND FORM's CARD OF 'wharfingerlaw09.PathShort'. -/
def pathShortUptoCard : Claim7 := { stood := { row := pathShortUptoRow, standIns := [], harness := (true, "3df6c6d3144085352dafa9489c2036d01acbd80a73ed8a2d9d4dc652bdea38a1"), looks := true }, kinds := [], alts := [], laidByText := true, laidKinds := [.data, .handle, .pinned], laidTests := true, laidLooks := .later }
def PathShortUptoCardSaid : Prop := Claim7.holds Tryd.pinned (.plain (OpenSpec.upto pathShortSpec)) pathShortUptoCard

/-- THE SECOND FORM's CARD OF 'wharfingerlaw09.PathBytes'. -/
def pathBytesUptoCard : Claim7 := { stood := { row := pathBytesUptoRow, standIns := [], harness := (true, "3df6c6d3144085352dafa9489c2036d01acbd80a73ed8a2d9d4dc652bdea38a1"), looks := true }, kinds := [], alts := [], laidByText := true, laidKinds := [.data, .handle, .pinned], laidTests := true, laidLooks := .later }
def PathBytesUptoCardSaid : Prop := Claim7.holds Tryd.pinned (.plain (OpenSpec.upto pathBytesSpec)) pathBytesUptoCard

/-- THE SECOND FORM's CARD OF 'wharfingerlaw09.PathLimits'. -/
def pathLimitsUptoCard : Claim7 := { stood := { row := pathLimitsUptoRow, standIns := [], harness := (true, "3df6c6d3144085352dafa9489c2036d01acbd80a73ed8a2d9d4dc652bdea38a1"), looks := true }, kinds := [], alts := [], laidByText := true, laidKinds := [.data, .handle, .pinned], laidTests := true, laidLooks := .later }
def PathLimitsUptoCardSaid : Prop := Claim7.holds Tryd.pinned (.plain (OpenSpec.upto pathLimitsSpec)) pathLimitsUptoCard

/-- THE SECOND FORM's CARD OF 'wharfingertop.WholeFramed'. -/
def wholeFramedUptoCard : Claim7 := { stood := { row := wholeFramedUptoRow, standIns := [], harness := (true, "3df6c6d3144085352dafa9489c2036d01acbd80a73ed8a2d9d4dc652bdea38a1"), looks := true }, kinds := [], alts := [], laidByText := true, laidKinds := [.data, .data], laidTests := true, laidLooks := .later }
def WholeFramedUptoCardSaid : Prop := Claim7.holds Tryd.pinned (.plain (OpenSpec.upto wholeFramedSpec)) wholeFramedUptoCard
end Rows
end Go.Proofs.YtpaijhmbfljfmaaDoor
