/-
  DERIVED. GIVEN WITH THE SEED: THE CARDS: each row of YtifepgigkmhdaaaDoorRows.lean that lists a variable, with what it lists TIED to the program's text (the seventh form; the later family's looks); each row that meets fmt, with fmt's text TOLD by the authors' own Lean function (tested against real Go, not proved from fmt's source: count such statements apart). THE CARD IS WHAT COUNTS. Prove the row's statement (the work); the ties are given (YtifepgigkmhdaaaDoorTie.lean); close each card by the builder's one call (the guide's Derived/Test/ToyasCard.lean, 'card_holds'). Laid BY PROGRAM, IN A SANDBOX (cutbox-door.mjs). By AI agents, Wed Nov 11 2026. No macro, syntax, notation, axiom, sorry.
-/
import Derived.Test.YtifepgigkmhdaaaDoorRows
import GoSem.ClaimSeven
namespace Go.Proofs.YtifepgigkmhdaaaDoor
namespace Rows

/-- THE TIED CARD OF 'wharfingerlaw05.FeedSame'. -/
def feedSameCard : Claim7 := { stood := { row := feedSameRow, standIns := [], harness := (true, "e678b29a9a2b6fd80dd281d03a50d3cef108d03a40b1a6962833219d57f95cbd"), looks := true }, kinds := [], alts := [], laidByText := true, laidKinds := [.handle], laidTests := true, laidLooks := .later }
def FeedSameCardSaid : Prop := Claim7.holds Tryd.pinned (.plain (OpenSpec.ofChange feedSameSpec)) feedSameCard

/-- THE TIED CARD OF 'wharfingerlaw06.BlockBytes'. -/
def blockBytesCard : Claim7 := { stood := { row := blockBytesRow, standIns := [], harness := (true, "e678b29a9a2b6fd80dd281d03a50d3cef108d03a40b1a6962833219d57f95cbd"), looks := true }, kinds := [], alts := [], laidByText := true, laidKinds := [.data, .data], laidTests := true, laidLooks := .later }
def BlockBytesCardSaid : Prop := Claim7.holds Tryd.pinned (.plain (OpenSpec.ofChange blockBytesSpec)) blockBytesCard

/-- THE TIED CARD OF 'wharfingerlaw06.BlockFinds'. -/
def blockFindsCard : Claim7 := { stood := { row := blockFindsRow, standIns := [], harness := (true, "e678b29a9a2b6fd80dd281d03a50d3cef108d03a40b1a6962833219d57f95cbd"), looks := true }, kinds := [], alts := [], laidByText := true, laidKinds := [.data, .data], laidTests := true, laidLooks := .later }
def BlockFindsCardSaid : Prop := Claim7.holds Tryd.pinned (.plain (OpenSpec.ofChange blockFindsSpec)) blockFindsCard

/-- THE TIED CARD OF 'wharfingerlaw06.BlockCuts'. -/
def blockCutsCard : Claim7 := { stood := { row := blockCutsRow, standIns := [], harness := (true, "e678b29a9a2b6fd80dd281d03a50d3cef108d03a40b1a6962833219d57f95cbd"), looks := true }, kinds := [], alts := [], laidByText := true, laidKinds := [.data, .data], laidTests := true, laidLooks := .later }
def BlockCutsCardSaid : Prop := Claim7.holds Tryd.pinned (.plain (OpenSpec.ofChange blockCutsSpec)) blockCutsCard

/-- THE TIED CARD OF 'wharfingerlaw09.PathSets'. -/
def pathSetsCard : Claim7 := { stood := { row := pathSetsRow, standIns := [], harness := (true, "e678b29a9a2b6fd80dd281d03a50d3cef108d03a40b1a6962833219d57f95cbd"), looks := true }, kinds := [], alts := [], laidByText := true, laidKinds := [.data, .handle, .pinned], laidTests := true, laidLooks := .later }
def PathSetsCardSaid : Prop := Claim7.holds Tryd.pinned (.plain (OpenSpec.ofChange pathSetsSpec)) pathSetsCard

/-- THE TIED CARD OF 'wharfingerlaw12.LockMany'. -/
def lockManyCard : Claim7 := { stood := { row := lockManyRow, standIns := [], harness := (true, "e678b29a9a2b6fd80dd281d03a50d3cef108d03a40b1a6962833219d57f95cbd"), looks := true }, kinds := [], alts := [], laidByText := true, laidKinds := [.data, .handle, .pinned], laidTests := true, laidLooks := .later }
def LockManyCardSaid : Prop := Claim7.holds Tryd.pinned (.plain (OpenSpec.ofChange lockManySpec)) lockManyCard

/-- THE TIED CARD OF 'wharfingerlaw14.AuthAnswers'. -/
def authAnswersCard : Claim7 := { stood := { row := authAnswersRow, standIns := [], harness := (true, "e678b29a9a2b6fd80dd281d03a50d3cef108d03a40b1a6962833219d57f95cbd"), looks := true }, kinds := [], alts := [], laidByText := true, laidKinds := [.data, .data], laidTests := true, laidLooks := .later }
def AuthAnswersCardSaid : Prop := Claim7.holds Tryd.pinned (.plain (OpenSpec.ofChange authAnswersSpec)) authAnswersCard

/-- THE TIED CARD OF 'wharfingerlaw14.AuthChecks'. -/
def authChecksCard : Claim7 := { stood := { row := authChecksRow, standIns := [], harness := (true, "e678b29a9a2b6fd80dd281d03a50d3cef108d03a40b1a6962833219d57f95cbd"), looks := true }, kinds := [], alts := [], laidByText := true, laidKinds := [.data, .data], laidTests := true, laidLooks := .later }
def AuthChecksCardSaid : Prop := Claim7.holds Tryd.pinned (.plain (OpenSpec.ofChange authChecksSpec)) authChecksCard

/-- THE TIED CARD OF 'wharfingerlaw14.AuthOwn'. -/
def authOwnCard : Claim7 := { stood := { row := authOwnRow, standIns := [], harness := (true, "e678b29a9a2b6fd80dd281d03a50d3cef108d03a40b1a6962833219d57f95cbd"), looks := true }, kinds := [], alts := [], laidByText := true, laidKinds := [.data, .data], laidTests := true, laidLooks := .later }
def AuthOwnCardSaid : Prop := Claim7.holds Tryd.pinned (.plain (OpenSpec.ofChange authOwnSpec)) authOwnCard

/-- THE TIED CARD OF 'wharfingerlaw14.AuthNobody'. -/
def authNobodyCard : Claim7 := { stood := { row := authNobodyRow, standIns := [], harness := (true, "e678b29a9a2b6fd80dd281d03a50d3cef108d03a40b1a6962833219d57f95cbd"), looks := true }, kinds := [], alts := [], laidByText := true, laidKinds := [.data, .data], laidTests := true, laidLooks := .later }
def AuthNobodyCardSaid : Prop := Claim7.holds Tryd.pinned (.plain (OpenSpec.ofChange authNobodySpec)) authNobodyCard

/-- THE TIED CARD OF 'wharfingerlaw14.AuthParts'. -/
def authPartsCard : Claim7 := { stood := { row := authPartsRow, standIns := [], harness := (true, "e678b29a9a2b6fd80dd281d03a50d3cef108d03a40b1a6962833219d57f95cbd"), looks := true }, kinds := [], alts := [], laidByText := true, laidKinds := [.data, .data], laidTests := true, laidLooks := .later }
def AuthPartsCardSaid : Prop := Claim7.holds Tryd.pinned (.plain (OpenSpec.ofChange authPartsSpec)) authPartsCard

/-- THE SECOND FORM's CARD OF 'wharfingerlaw05.FeedSame'. -/
def feedSameUptoCard : Claim7 := { stood := { row := feedSameUptoRow, standIns := [], harness := (true, "e678b29a9a2b6fd80dd281d03a50d3cef108d03a40b1a6962833219d57f95cbd"), looks := true }, kinds := [], alts := [], laidByText := true, laidKinds := [.handle], laidTests := true, laidLooks := .later }
def FeedSameUptoCardSaid : Prop := Claim7.holds Tryd.pinned (.plain (OpenSpec.upto feedSameSpec)) feedSameUptoCard

/-- THE SECOND FORM's CARD OF 'wharfingerlaw06.BlockBytes'. -/
def blockBytesUptoCard : Claim7 := { stood := { row := blockBytesUptoRow, standIns := [], harness := (true, "e678b29a9a2b6fd80dd281d03a50d3cef108d03a40b1a6962833219d57f95cbd"), looks := true }, kinds := [], alts := [], laidByText := true, laidKinds := [.data, .data], laidTests := true, laidLooks := .later }
def BlockBytesUptoCardSaid : Prop := Claim7.holds Tryd.pinned (.plain (OpenSpec.upto blockBytesSpec)) blockBytesUptoCard

/-- THE SECOND FORM's CARD OF 'wharfingerlaw06.BlockFinds'. -/
def blockFindsUptoCard : Claim7 := { stood := { row := blockFindsUptoRow, standIns := [], harness := (true, "e678b29a9a2b6fd80dd281d03a50d3cef108d03a40b1a6962833219d57f95cbd"), looks := true }, kinds := [], alts := [], laidByText := true, laidKinds := [.data, .data], laidTests := true, laidLooks := .later }
def BlockFindsUptoCardSaid : Prop := Claim7.holds Tryd.pinned (.plain (OpenSpec.upto blockFindsSpec)) blockFindsUptoCard

/-- THE SECOND FORM's CARD OF 'wharfingerlaw06.BlockCuts'. -/
def blockCutsUptoCard : Claim7 := { stood := { row := blockCutsUptoRow, standIns := [], harness := (true, "e678b29a9a2b6fd80dd281d03a50d3cef108d03a40b1a6962833219d57f95cbd"), looks := true }, kinds := [], alts := [], laidByText := true, laidKinds := [.data, .data], laidTests := true, laidLooks := .later }
def BlockCutsUptoCardSaid : Prop := Claim7.holds Tryd.pinned (.plain (OpenSpec.upto blockCutsSpec)) blockCutsUptoCard

/-- THE SECOND FORM's CARD OF 'wharfingerlaw09.PathSets'. -/
def pathSetsUptoCard : Claim7 := { stood := { row := pathSetsUptoRow, standIns := [], harness := (true, "e678b29a9a2b6fd80dd281d03a50d3cef108d03a40b1a6962833219d57f95cbd"), looks := true }, kinds := [], alts := [], laidByText := true, laidKinds := [.data, .handle, .pinned], laidTests := true, laidLooks := .later }
def PathSetsUptoCardSaid : Prop := Claim7.holds Tryd.pinned (.plain (OpenSpec.upto pathSetsSpec)) pathSetsUptoCard

/-- THE SECOND FORM's CARD OF 'wharfingerlaw12.LockMany'. -/
def lockManyUptoCard : Claim7 := { stood := { row := lockManyUptoRow, standIns := [], harness := (true, "e678b29a9a2b6fd80dd281d03a50d3cef108d03a40b1a6962833219d57f95cbd"), looks := true }, kinds := [], alts := [], laidByText := true, laidKinds := [.data, .handle, .pinned], laidTests := true, laidLooks := .later }
def LockManyUptoCardSaid : Prop := Claim7.holds Tryd.pinned (.plain (OpenSpec.upto lockManySpec)) lockManyUptoCard

/-- THE SECOND FORM's CARD OF 'wharfingerlaw14.AuthAnswers'. -/
def authAnswersUptoCard : Claim7 := { stood := { row := authAnswersUptoRow, standIns := [], harness := (true, "e678b29a9a2b6fd80dd281d03a50d3cef108d03a40b1a6962833219d57f95cbd"), looks := true }, kinds := [], alts := [], laidByText := true, laidKinds := [.data, .data], laidTests := true, laidLooks := .later }
def AuthAnswersUptoCardSaid : Prop := Claim7.holds Tryd.pinned (.plain (OpenSpec.upto authAnswersSpec)) authAnswersUptoCard

/-- THE SECOND FORM's CARD OF 'wharfingerlaw14.AuthChecks'. -/
def authChecksUptoCard : Claim7 := { stood := { row := authChecksUptoRow, standIns := [], harness := (true, "e678b29a9a2b6fd80dd281d03a50d3cef108d03a40b1a6962833219d57f95cbd"), looks := true }, kinds := [], alts := [], laidByText := true, laidKinds := [.data, .data], laidTests := true, laidLooks := .later }
def AuthChecksUptoCardSaid : Prop := Claim7.holds Tryd.pinned (.plain (OpenSpec.upto authChecksSpec)) authChecksUptoCard

/-- THE SECOND FORM's CARD OF 'wharfingerlaw14.AuthOwn'. -/
def authOwnUptoCard : Claim7 := { stood := { row := authOwnUptoRow, standIns := [], harness := (true, "e678b29a9a2b6fd80dd281d03a50d3cef108d03a40b1a6962833219d57f95cbd"), looks := true }, kinds := [], alts := [], laidByText := true, laidKinds := [.data, .data], laidTests := true, laidLooks := .later }
def AuthOwnUptoCardSaid : Prop := Claim7.holds Tryd.pinned (.plain (OpenSpec.upto authOwnSpec)) authOwnUptoCard

/-- THE SECOND FORM's CARD OF 'wharfingerlaw14.AuthNobody'. -/
def authNobodyUptoCard : Claim7 := { stood := { row := authNobodyUptoRow, standIns := [], harness := (true, "e678b29a9a2b6fd80dd281d03a50d3cef108d03a40b1a6962833219d57f95cbd"), looks := true }, kinds := [], alts := [], laidByText := true, laidKinds := [.data, .data], laidTests := true, laidLooks := .later }
def AuthNobodyUptoCardSaid : Prop := Claim7.holds Tryd.pinned (.plain (OpenSpec.upto authNobodySpec)) authNobodyUptoCard

/-- THE SECOND FORM's CARD OF 'wharfingerlaw14.AuthParts'. -/
def authPartsUptoCard : Claim7 := { stood := { row := authPartsUptoRow, standIns := [], harness := (true, "e678b29a9a2b6fd80dd281d03a50d3cef108d03a40b1a6962833219d57f95cbd"), looks := true }, kinds := [], alts := [], laidByText := true, laidKinds := [.data, .data], laidTests := true, laidLooks := .later }
def AuthPartsUptoCardSaid : Prop := Claim7.holds Tryd.pinned (.plain (OpenSpec.upto authPartsSpec)) authPartsUptoCard
end Rows
end Go.Proofs.YtifepgigkmhdaaaDoor
