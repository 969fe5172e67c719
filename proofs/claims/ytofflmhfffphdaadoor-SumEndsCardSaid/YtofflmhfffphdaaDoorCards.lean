/-
  DERIVED. GIVEN WITH THE SEED: THE CARDS: each row of YtofflmhfffphdaaDoorRows.lean that lists a variable, with what it lists TIED to the program's text (the seventh form; the later family's looks); each row that meets fmt, with fmt's text TOLD by the authors' own Lean function (tested against real Go, not proved from fmt's source: count such statements apart). THE CARD IS WHAT COUNTS. Prove the row's statement (the work); the ties are given (YtofflmhfffphdaaDoorTie.lean); close each card by the builder's one call (the guide's Derived/Test/ToyasCard.lean, 'card_holds'). Laid BY PROGRAM, IN A SANDBOX (cutbox-door.mjs). By AI agents, Wed Nov 11 2026. No macro, syntax, notation, axiom, sorry.
-/
import Derived.Test.YtofflmhfffphdaaDoorRows
import GoSem.ClaimSeven
namespace Go.Proofs.YtofflmhfffphdaaDoor
namespace Rows

/-- THE TIED CARD OF 'wharfingerlaw01.SumOf'. -/
def sumOfCard : Claim7 := { stood := { row := sumOfRow, standIns := [], harness := (true, "ef6c9a33033b756fe63b2db927e1c709d77e0b6281f6ee32893946a04f911809"), looks := true }, kinds := [], alts := [], laidByText := true, laidKinds := [.data, .data], laidTests := true, laidLooks := .later }
def SumOfCardSaid : Prop := Claim7.holds Tryd.pinned (.plain (OpenSpec.ofChange sumOfSpec)) sumOfCard

/-- THE TIED CARD OF 'wharfingerlaw01.SumCut'. -/
def sumCutCard : Claim7 := { stood := { row := sumCutRow, standIns := [], harness := (true, "ef6c9a33033b756fe63b2db927e1c709d77e0b6281f6ee32893946a04f911809"), looks := true }, kinds := [], alts := [], laidByText := true, laidKinds := [.data, .data], laidTests := true, laidLooks := .later }
def SumCutCardSaid : Prop := Claim7.holds Tryd.pinned (.plain (OpenSpec.ofChange sumCutSpec)) sumCutCard

/-- THE TIED CARD OF 'wharfingerlaw01.SumMac'. -/
def sumMacCard : Claim7 := { stood := { row := sumMacRow, standIns := [], harness := (true, "ef6c9a33033b756fe63b2db927e1c709d77e0b6281f6ee32893946a04f911809"), looks := true }, kinds := [], alts := [], laidByText := true, laidKinds := [.data, .data], laidTests := true, laidLooks := .later }
def SumMacCardSaid : Prop := Claim7.holds Tryd.pinned (.plain (OpenSpec.ofChange sumMacSpec)) sumMacCard

/-- THE TIED CARD OF 'wharfingerlaw01.SumEnds'. -/
def sumEndsCard : Claim7 := { stood := { row := sumEndsRow, standIns := [], harness := (true, "ef6c9a33033b756fe63b2db927e1c709d77e0b6281f6ee32893946a04f911809"), looks := true }, kinds := [], alts := [], laidByText := true, laidKinds := [.data, .data], laidTests := true, laidLooks := .later }
def SumEndsCardSaid : Prop := Claim7.holds Tryd.pinned (.plain (OpenSpec.ofChange sumEndsSpec)) sumEndsCard

/-- THE TIED CARD OF 'wharfingerlaw01.SumKeys'. -/
def sumKeysCard : Claim7 := { stood := { row := sumKeysRow, standIns := [], harness := (true, "ef6c9a33033b756fe63b2db927e1c709d77e0b6281f6ee32893946a04f911809"), looks := true }, kinds := [], alts := [], laidByText := true, laidKinds := [.data, .data], laidTests := true, laidLooks := .later }
def SumKeysCardSaid : Prop := Claim7.holds Tryd.pinned (.plain (OpenSpec.ofChange sumKeysSpec)) sumKeysCard

/-- THE TIED CARD OF 'wharfingerlaw05.FeedPieces'. -/
def feedPiecesCard : Claim7 := { stood := { row := feedPiecesRow, standIns := [], harness := (true, "ef6c9a33033b756fe63b2db927e1c709d77e0b6281f6ee32893946a04f911809"), looks := true }, kinds := [], alts := [], laidByText := true, laidKinds := [.handle], laidTests := true, laidLooks := .later }
def FeedPiecesCardSaid : Prop := Claim7.holds Tryd.pinned (.plain (OpenSpec.ofChange feedPiecesSpec)) feedPiecesCard

/-- THE TIED CARD OF 'wharfingerlaw05.FeedSame'. -/
def feedSameCard : Claim7 := { stood := { row := feedSameRow, standIns := [], harness := (true, "ef6c9a33033b756fe63b2db927e1c709d77e0b6281f6ee32893946a04f911809"), looks := true }, kinds := [], alts := [], laidByText := true, laidKinds := [.handle], laidTests := true, laidLooks := .later }
def FeedSameCardSaid : Prop := Claim7.holds Tryd.pinned (.plain (OpenSpec.ofChange feedSameSpec)) feedSameCard

/-- THE TIED CARD OF 'wharfingerlaw05.FeedHolds'. -/
def feedHoldsCard : Claim7 := { stood := { row := feedHoldsRow, standIns := [], harness := (true, "ef6c9a33033b756fe63b2db927e1c709d77e0b6281f6ee32893946a04f911809"), looks := true }, kinds := [], alts := [], laidByText := true, laidKinds := [.handle], laidTests := true, laidLooks := .later }
def FeedHoldsCardSaid : Prop := Claim7.holds Tryd.pinned (.plain (OpenSpec.ofChange feedHoldsSpec)) feedHoldsCard

/-- THE TIED CARD OF 'wharfingerlaw05.FeedEnds'. -/
def feedEndsCard : Claim7 := { stood := { row := feedEndsRow, standIns := [], harness := (true, "ef6c9a33033b756fe63b2db927e1c709d77e0b6281f6ee32893946a04f911809"), looks := true }, kinds := [], alts := [], laidByText := true, laidKinds := [.handle], laidTests := true, laidLooks := .later }
def FeedEndsCardSaid : Prop := Claim7.holds Tryd.pinned (.plain (OpenSpec.ofChange feedEndsSpec)) feedEndsCard

/-- THE TIED CARD OF 'wharfingerlaw05.FeedWrong'. -/
def feedWrongCard : Claim7 := { stood := { row := feedWrongRow, standIns := [], harness := (true, "ef6c9a33033b756fe63b2db927e1c709d77e0b6281f6ee32893946a04f911809"), looks := true }, kinds := [], alts := [], laidByText := true, laidKinds := [.handle], laidTests := true, laidLooks := .later }
def FeedWrongCardSaid : Prop := Claim7.holds Tryd.pinned (.plain (OpenSpec.ofChange feedWrongSpec)) feedWrongCard

/-- THE TIED CARD OF 'wharfingerlaw05.FeedOwn'. -/
def feedOwnCard : Claim7 := { stood := { row := feedOwnRow, standIns := [], harness := (true, "ef6c9a33033b756fe63b2db927e1c709d77e0b6281f6ee32893946a04f911809"), looks := true }, kinds := [], alts := [], laidByText := true, laidKinds := [.handle], laidTests := true, laidLooks := .later }
def FeedOwnCardSaid : Prop := Claim7.holds Tryd.pinned (.plain (OpenSpec.ofChange feedOwnSpec)) feedOwnCard

/-- THE SECOND FORM's CARD OF 'wharfingerlaw01.SumOf'. -/
def sumOfUptoCard : Claim7 := { stood := { row := sumOfUptoRow, standIns := [], harness := (true, "ef6c9a33033b756fe63b2db927e1c709d77e0b6281f6ee32893946a04f911809"), looks := true }, kinds := [], alts := [], laidByText := true, laidKinds := [.data, .data], laidTests := true, laidLooks := .later }
def SumOfUptoCardSaid : Prop := Claim7.holds Tryd.pinned (.plain (OpenSpec.upto sumOfSpec)) sumOfUptoCard

/-- THE SECOND FORM's CARD OF 'wharfingerlaw01.SumCut'. -/
def sumCutUptoCard : Claim7 := { stood := { row := sumCutUptoRow, standIns := [], harness := (true, "ef6c9a33033b756fe63b2db927e1c709d77e0b6281f6ee32893946a04f911809"), looks := true }, kinds := [], alts := [], laidByText := true, laidKinds := [.data, .data], laidTests := true, laidLooks := .later }
def SumCutUptoCardSaid : Prop := Claim7.holds Tryd.pinned (.plain (OpenSpec.upto sumCutSpec)) sumCutUptoCard

/-- THE SECOND FORM's CARD OF 'wharfingerlaw01.SumMac'. -/
def sumMacUptoCard : Claim7 := { stood := { row := sumMacUptoRow, standIns := [], harness := (true, "ef6c9a33033b756fe63b2db927e1c709d77e0b6281f6ee32893946a04f911809"), looks := true }, kinds := [], alts := [], laidByText := true, laidKinds := [.data, .data], laidTests := true, laidLooks := .later }
def SumMacUptoCardSaid : Prop := Claim7.holds Tryd.pinned (.plain (OpenSpec.upto sumMacSpec)) sumMacUptoCard

/-- THE SECOND FORM's CARD OF 'wharfingerlaw01.SumEnds'. -/
def sumEndsUptoCard : Claim7 := { stood := { row := sumEndsUptoRow, standIns := [], harness := (true, "ef6c9a33033b756fe63b2db927e1c709d77e0b6281f6ee32893946a04f911809"), looks := true }, kinds := [], alts := [], laidByText := true, laidKinds := [.data, .data], laidTests := true, laidLooks := .later }
def SumEndsUptoCardSaid : Prop := Claim7.holds Tryd.pinned (.plain (OpenSpec.upto sumEndsSpec)) sumEndsUptoCard

/-- THE SECOND FORM's CARD OF 'wharfingerlaw01.SumKeys'. -/
def sumKeysUptoCard : Claim7 := { stood := { row := sumKeysUptoRow, standIns := [], harness := (true, "ef6c9a33033b756fe63b2db927e1c709d77e0b6281f6ee32893946a04f911809"), looks := true }, kinds := [], alts := [], laidByText := true, laidKinds := [.data, .data], laidTests := true, laidLooks := .later }
def SumKeysUptoCardSaid : Prop := Claim7.holds Tryd.pinned (.plain (OpenSpec.upto sumKeysSpec)) sumKeysUptoCard

/-- THE SECOND FORM's CARD OF 'wharfingerlaw05.FeedPieces'. -/
def feedPiecesUptoCard : Claim7 := { stood := { row := feedPiecesUptoRow, standIns := [], harness := (true, "ef6c9a33033b756fe63b2db927e1c709d77e0b6281f6ee32893946a04f911809"), looks := true }, kinds := [], alts := [], laidByText := true, laidKinds := [.handle], laidTests := true, laidLooks := .later }
def FeedPiecesUptoCardSaid : Prop := Claim7.holds Tryd.pinned (.plain (OpenSpec.upto feedPiecesSpec)) feedPiecesUptoCard

/-- THE SECOND FORM's CARD OF 'wharfingerlaw05.FeedSame'. -/
def feedSameUptoCard : Claim7 := { stood := { row := feedSameUptoRow, standIns := [], harness := (true, "ef6c9a33033b756fe63b2db927e1c709d77e0b6281f6ee32893946a04f911809"), looks := true }, kinds := [], alts := [], laidByText := true, laidKinds := [.handle], laidTests := true, laidLooks := .later }
def FeedSameUptoCardSaid : Prop := Claim7.holds Tryd.pinned (.plain (OpenSpec.upto feedSameSpec)) feedSameUptoCard

/-- THE SECOND FORM's CARD OF 'wharfingerlaw05.FeedHolds'. -/
def feedHoldsUptoCard : Claim7 := { stood := { row := feedHoldsUptoRow, standIns := [], harness := (true, "ef6c9a33033b756fe63b2db927e1c709d77e0b6281f6ee32893946a04f911809"), looks := true }, kinds := [], alts := [], laidByText := true, laidKinds := [.handle], laidTests := true, laidLooks := .later }
def FeedHoldsUptoCardSaid : Prop := Claim7.holds Tryd.pinned (.plain (OpenSpec.upto feedHoldsSpec)) feedHoldsUptoCard

/-- THE SECOND FORM's CARD OF 'wharfingerlaw05.FeedEnds'. -/
def feedEndsUptoCard : Claim7 := { stood := { row := feedEndsUptoRow, standIns := [], harness := (true, "ef6c9a33033b756fe63b2db927e1c709d77e0b6281f6ee32893946a04f911809"), looks := true }, kinds := [], alts := [], laidByText := true, laidKinds := [.handle], laidTests := true, laidLooks := .later }
def FeedEndsUptoCardSaid : Prop := Claim7.holds Tryd.pinned (.plain (OpenSpec.upto feedEndsSpec)) feedEndsUptoCard

/-- THE SECOND FORM's CARD OF 'wharfingerlaw05.FeedWrong'. -/
def feedWrongUptoCard : Claim7 := { stood := { row := feedWrongUptoRow, standIns := [], harness := (true, "ef6c9a33033b756fe63b2db927e1c709d77e0b6281f6ee32893946a04f911809"), looks := true }, kinds := [], alts := [], laidByText := true, laidKinds := [.handle], laidTests := true, laidLooks := .later }
def FeedWrongUptoCardSaid : Prop := Claim7.holds Tryd.pinned (.plain (OpenSpec.upto feedWrongSpec)) feedWrongUptoCard

/-- THE SECOND FORM's CARD OF 'wharfingerlaw05.FeedOwn'. -/
def feedOwnUptoCard : Claim7 := { stood := { row := feedOwnUptoRow, standIns := [], harness := (true, "ef6c9a33033b756fe63b2db927e1c709d77e0b6281f6ee32893946a04f911809"), looks := true }, kinds := [], alts := [], laidByText := true, laidKinds := [.handle], laidTests := true, laidLooks := .later }
def FeedOwnUptoCardSaid : Prop := Claim7.holds Tryd.pinned (.plain (OpenSpec.upto feedOwnSpec)) feedOwnUptoCard
end Rows
end Go.Proofs.YtofflmhfffphdaaDoor
