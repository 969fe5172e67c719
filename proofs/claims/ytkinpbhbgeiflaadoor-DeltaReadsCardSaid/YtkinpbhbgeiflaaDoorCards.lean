/-
  DERIVED. GIVEN WITH THE SEED: THE CARDS: each row of YtkinpbhbgeiflaaDoorRows.lean that lists a variable, with what it lists TIED to the program's text (the seventh form; the later family's looks); each row that meets fmt, with fmt's text TOLD by the authors' own Lean function (tested against real Go, not proved from fmt's source: count such statements apart). THE CARD IS WHAT COUNTS. Prove the row's statement (the work); the ties are given (YtkinpbhbgeiflaaDoorTie.lean); close each card by the builder's one call (the guide's Derived/Test/ToyasCard.lean, 'card_holds'). Laid BY PROGRAM, IN A SANDBOX (cutbox-door.mjs). By AI agents, Wed Nov 11 2026. No macro, syntax, notation, axiom, sorry.
-/
import Derived.Test.YtkinpbhbgeiflaaDoorRows
import GoSem.ClaimSeven
namespace Go.Proofs.YtkinpbhbgeiflaaDoor
namespace Rows

/-- THE TIED CARD OF 'wharfingerlaw05.FeedSame'. -/
def feedSameCard : Claim7 := { stood := { row := feedSameRow, standIns := [], harness := (true, "190ea2b6d64d72b98c417f3db73be63b8b70a6046f32df0326b901cbb7c1b7cf"), looks := true }, kinds := [], alts := [], laidByText := true, laidKinds := [.handle], laidTests := true, laidLooks := .later }
def FeedSameCardSaid : Prop := Claim7.holds Tryd.pinned (.plain (OpenSpec.ofChange feedSameSpec)) feedSameCard

/-- THE TIED CARD OF 'wharfingerlaw07.DeltaMakes'. -/
def deltaMakesCard : Claim7 := { stood := { row := deltaMakesRow, standIns := [], harness := (true, "190ea2b6d64d72b98c417f3db73be63b8b70a6046f32df0326b901cbb7c1b7cf"), looks := true }, kinds := [], alts := [], laidByText := true, laidKinds := [.data, .data], laidTests := true, laidLooks := .later }
def DeltaMakesCardSaid : Prop := Claim7.holds Tryd.pinned (.plain (OpenSpec.ofChange deltaMakesSpec)) deltaMakesCard

/-- THE TIED CARD OF 'wharfingerlaw07.DeltaRaw'. -/
def deltaRawCard : Claim7 := { stood := { row := deltaRawRow, standIns := [], harness := (true, "190ea2b6d64d72b98c417f3db73be63b8b70a6046f32df0326b901cbb7c1b7cf"), looks := true }, kinds := [], alts := [], laidByText := true, laidKinds := [.data, .data], laidTests := true, laidLooks := .later }
def DeltaRawCardSaid : Prop := Claim7.holds Tryd.pinned (.plain (OpenSpec.ofChange deltaRawSpec)) deltaRawCard

/-- THE TIED CARD OF 'wharfingerlaw07.DeltaBytes'. -/
def deltaBytesCard : Claim7 := { stood := { row := deltaBytesRow, standIns := [], harness := (true, "190ea2b6d64d72b98c417f3db73be63b8b70a6046f32df0326b901cbb7c1b7cf"), looks := true }, kinds := [], alts := [], laidByText := true, laidKinds := [.data, .data], laidTests := true, laidLooks := .later }
def DeltaBytesCardSaid : Prop := Claim7.holds Tryd.pinned (.plain (OpenSpec.ofChange deltaBytesSpec)) deltaBytesCard

/-- THE TIED CARD OF 'wharfingerlaw07.DeltaReads'. -/
def deltaReadsCard : Claim7 := { stood := { row := deltaReadsRow, standIns := [], harness := (true, "190ea2b6d64d72b98c417f3db73be63b8b70a6046f32df0326b901cbb7c1b7cf"), looks := true }, kinds := [], alts := [], laidByText := true, laidKinds := [.handle, .data, .data], laidTests := true, laidLooks := .later }
def DeltaReadsCardSaid : Prop := Claim7.holds Tryd.pinned (.plain (OpenSpec.ofChange deltaReadsSpec)) deltaReadsCard

/-- THE TIED CARD OF 'wharfingerlaw07.DeltaJoined'. -/
def deltaJoinedCard : Claim7 := { stood := { row := deltaJoinedRow, standIns := [], harness := (true, "190ea2b6d64d72b98c417f3db73be63b8b70a6046f32df0326b901cbb7c1b7cf"), looks := true }, kinds := [], alts := [], laidByText := true, laidKinds := [.data, .data], laidTests := true, laidLooks := .later }
def DeltaJoinedCardSaid : Prop := Claim7.holds Tryd.pinned (.plain (OpenSpec.ofChange deltaJoinedSpec)) deltaJoinedCard

/-- THE TIED CARD OF 'wharfingerlaw07.DeltaWhole'. -/
def deltaWholeCard : Claim7 := { stood := { row := deltaWholeRow, standIns := [], harness := (true, "190ea2b6d64d72b98c417f3db73be63b8b70a6046f32df0326b901cbb7c1b7cf"), looks := true }, kinds := [], alts := [], laidByText := true, laidKinds := [.data, .data], laidTests := true, laidLooks := .later }
def DeltaWholeCardSaid : Prop := Claim7.holds Tryd.pinned (.plain (OpenSpec.ofChange deltaWholeSpec)) deltaWholeCard

/-- THE TIED CARD OF 'wharfingerlaw07.DeltaOwn'. -/
def deltaOwnCard : Claim7 := { stood := { row := deltaOwnRow, standIns := [], harness := (true, "190ea2b6d64d72b98c417f3db73be63b8b70a6046f32df0326b901cbb7c1b7cf"), looks := true }, kinds := [], alts := [], laidByText := true, laidKinds := [.data, .data], laidTests := true, laidLooks := .later }
def DeltaOwnCardSaid : Prop := Claim7.holds Tryd.pinned (.plain (OpenSpec.ofChange deltaOwnSpec)) deltaOwnCard

/-- THE TIED CARD OF 'wharfingerlaw07.DeltaFinds'. -/
def deltaFindsCard : Claim7 := { stood := { row := deltaFindsRow, standIns := [], harness := (true, "190ea2b6d64d72b98c417f3db73be63b8b70a6046f32df0326b901cbb7c1b7cf"), looks := true }, kinds := [], alts := [], laidByText := true, laidKinds := [.data, .data], laidTests := true, laidLooks := .later }
def DeltaFindsCardSaid : Prop := Claim7.holds Tryd.pinned (.plain (OpenSpec.ofChange deltaFindsSpec)) deltaFindsCard

/-- THE TIED CARD OF 'wharfingerlaw16.WordKinds'. -/
def wordKindsCard : Claim7 := { stood := { row := wordKindsRow, standIns := [], harness := (true, "190ea2b6d64d72b98c417f3db73be63b8b70a6046f32df0326b901cbb7c1b7cf"), looks := true }, kinds := [], alts := [], laidByText := true, laidKinds := [.handle], laidTests := true, laidLooks := .later }
def WordKindsCardSaid : Prop := Claim7.holds Tryd.pinned (.plain (OpenSpec.ofChange wordKindsSpec)) wordKindsCard

/-- THE SECOND FORM's CARD OF 'wharfingerlaw05.FeedSame'. -/
def feedSameUptoCard : Claim7 := { stood := { row := feedSameUptoRow, standIns := [], harness := (true, "190ea2b6d64d72b98c417f3db73be63b8b70a6046f32df0326b901cbb7c1b7cf"), looks := true }, kinds := [], alts := [], laidByText := true, laidKinds := [.handle], laidTests := true, laidLooks := .later }
def FeedSameUptoCardSaid : Prop := Claim7.holds Tryd.pinned (.plain (OpenSpec.upto feedSameSpec)) feedSameUptoCard

/-- THE SECOND FORM's CARD OF 'wharfingerlaw07.DeltaMakes'. -/
def deltaMakesUptoCard : Claim7 := { stood := { row := deltaMakesUptoRow, standIns := [], harness := (true, "190ea2b6d64d72b98c417f3db73be63b8b70a6046f32df0326b901cbb7c1b7cf"), looks := true }, kinds := [], alts := [], laidByText := true, laidKinds := [.data, .data], laidTests := true, laidLooks := .later }
def DeltaMakesUptoCardSaid : Prop := Claim7.holds Tryd.pinned (.plain (OpenSpec.upto deltaMakesSpec)) deltaMakesUptoCard

/-- THE SECOND FORM's CARD OF 'wharfingerlaw07.DeltaRaw'. -/
def deltaRawUptoCard : Claim7 := { stood := { row := deltaRawUptoRow, standIns := [], harness := (true, "190ea2b6d64d72b98c417f3db73be63b8b70a6046f32df0326b901cbb7c1b7cf"), looks := true }, kinds := [], alts := [], laidByText := true, laidKinds := [.data, .data], laidTests := true, laidLooks := .later }
def DeltaRawUptoCardSaid : Prop := Claim7.holds Tryd.pinned (.plain (OpenSpec.upto deltaRawSpec)) deltaRawUptoCard

/-- THE SECOND FORM's CARD OF 'wharfingerlaw07.DeltaBytes'. -/
def deltaBytesUptoCard : Claim7 := { stood := { row := deltaBytesUptoRow, standIns := [], harness := (true, "190ea2b6d64d72b98c417f3db73be63b8b70a6046f32df0326b901cbb7c1b7cf"), looks := true }, kinds := [], alts := [], laidByText := true, laidKinds := [.data, .data], laidTests := true, laidLooks := .later }
def DeltaBytesUptoCardSaid : Prop := Claim7.holds Tryd.pinned (.plain (OpenSpec.upto deltaBytesSpec)) deltaBytesUptoCard

/-- THE SECOND FORM's CARD OF 'wharfingerlaw07.DeltaReads'. -/
def deltaReadsUptoCard : Claim7 := { stood := { row := deltaReadsUptoRow, standIns := [], harness := (true, "190ea2b6d64d72b98c417f3db73be63b8b70a6046f32df0326b901cbb7c1b7cf"), looks := true }, kinds := [], alts := [], laidByText := true, laidKinds := [.handle, .data, .data], laidTests := true, laidLooks := .later }
def DeltaReadsUptoCardSaid : Prop := Claim7.holds Tryd.pinned (.plain (OpenSpec.upto deltaReadsSpec)) deltaReadsUptoCard

/-- THE SECOND FORM's CARD OF 'wharfingerlaw07.DeltaJoined'. -/
def deltaJoinedUptoCard : Claim7 := { stood := { row := deltaJoinedUptoRow, standIns := [], harness := (true, "190ea2b6d64d72b98c417f3db73be63b8b70a6046f32df0326b901cbb7c1b7cf"), looks := true }, kinds := [], alts := [], laidByText := true, laidKinds := [.data, .data], laidTests := true, laidLooks := .later }
def DeltaJoinedUptoCardSaid : Prop := Claim7.holds Tryd.pinned (.plain (OpenSpec.upto deltaJoinedSpec)) deltaJoinedUptoCard

/-- THE SECOND FORM's CARD OF 'wharfingerlaw07.DeltaWhole'. -/
def deltaWholeUptoCard : Claim7 := { stood := { row := deltaWholeUptoRow, standIns := [], harness := (true, "190ea2b6d64d72b98c417f3db73be63b8b70a6046f32df0326b901cbb7c1b7cf"), looks := true }, kinds := [], alts := [], laidByText := true, laidKinds := [.data, .data], laidTests := true, laidLooks := .later }
def DeltaWholeUptoCardSaid : Prop := Claim7.holds Tryd.pinned (.plain (OpenSpec.upto deltaWholeSpec)) deltaWholeUptoCard

/-- THE SECOND FORM's CARD OF 'wharfingerlaw07.DeltaOwn'. -/
def deltaOwnUptoCard : Claim7 := { stood := { row := deltaOwnUptoRow, standIns := [], harness := (true, "190ea2b6d64d72b98c417f3db73be63b8b70a6046f32df0326b901cbb7c1b7cf"), looks := true }, kinds := [], alts := [], laidByText := true, laidKinds := [.data, .data], laidTests := true, laidLooks := .later }
def DeltaOwnUptoCardSaid : Prop := Claim7.holds Tryd.pinned (.plain (OpenSpec.upto deltaOwnSpec)) deltaOwnUptoCard

/-- THE SECOND FORM's CARD OF 'wharfingerlaw07.DeltaFinds'. -/
def deltaFindsUptoCard : Claim7 := { stood := { row := deltaFindsUptoRow, standIns := [], harness := (true, "190ea2b6d64d72b98c417f3db73be63b8b70a6046f32df0326b901cbb7c1b7cf"), looks := true }, kinds := [], alts := [], laidByText := true, laidKinds := [.data, .data], laidTests := true, laidLooks := .later }
def DeltaFindsUptoCardSaid : Prop := Claim7.holds Tryd.pinned (.plain (OpenSpec.upto deltaFindsSpec)) deltaFindsUptoCard

/-- THE SECOND FORM's CARD OF 'wharfingerlaw16.WordKinds'. -/
def wordKindsUptoCard : Claim7 := { stood := { row := wordKindsUptoRow, standIns := [], harness := (true, "190ea2b6d64d72b98c417f3db73be63b8b70a6046f32df0326b901cbb7c1b7cf"), looks := true }, kinds := [], alts := [], laidByText := true, laidKinds := [.handle], laidTests := true, laidLooks := .later }
def WordKindsUptoCardSaid : Prop := Claim7.holds Tryd.pinned (.plain (OpenSpec.upto wordKindsSpec)) wordKindsUptoCard
end Rows
end Go.Proofs.YtkinpbhbgeiflaaDoor
