/-
  DERIVED. GIVEN WITH THE SEED: THE CARDS: each row of YtjojckdoocbelaaDoorRows.lean that lists a variable, with what it lists TIED to the program's text (the seventh form; the later family's looks); each row that meets fmt, with fmt's text TOLD by the authors' own Lean function (tested against real Go, not proved from fmt's source: count such statements apart). THE CARD IS WHAT COUNTS. Prove the row's statement (the work); the ties are given (YtjojckdoocbelaaDoorTie.lean); close each card by the builder's one call (the guide's Derived/Test/ToyasCard.lean, 'card_holds'). Laid BY PROGRAM, IN A SANDBOX (cutbox-door.mjs). By AI agents, Wed Nov 11 2026. No macro, syntax, notation, axiom, sorry.
-/
import Derived.Test.YtjojckdoocbelaaDoorRows
import GoSem.ClaimSeven
namespace Go.Proofs.YtjojckdoocbelaaDoor
namespace Rows

/-- THE TIED CARD OF 'wharfingerlaw01.SumOf'. -/
def sumOfCard : Claim7 := { stood := { row := sumOfRow, standIns := [], harness := (true, "321f37d5780c0b2f032c8759e39364fff42c1c30b2d5c63ffba6072835e56ea2"), looks := true }, kinds := [], alts := [], laidByText := true, laidKinds := [.data, .data], laidTests := true, laidLooks := .later }
def SumOfCardSaid : Prop := Claim7.holds Tryd.pinned (.plain (OpenSpec.ofChange sumOfSpec)) sumOfCard

/-- THE TIED CARD OF 'wharfingerlaw01.SumCut'. -/
def sumCutCard : Claim7 := { stood := { row := sumCutRow, standIns := [], harness := (true, "321f37d5780c0b2f032c8759e39364fff42c1c30b2d5c63ffba6072835e56ea2"), looks := true }, kinds := [], alts := [], laidByText := true, laidKinds := [.data, .data], laidTests := true, laidLooks := .later }
def SumCutCardSaid : Prop := Claim7.holds Tryd.pinned (.plain (OpenSpec.ofChange sumCutSpec)) sumCutCard

/-- THE TIED CARD OF 'wharfingerlaw01.SumMac'. -/
def sumMacCard : Claim7 := { stood := { row := sumMacRow, standIns := [], harness := (true, "321f37d5780c0b2f032c8759e39364fff42c1c30b2d5c63ffba6072835e56ea2"), looks := true }, kinds := [], alts := [], laidByText := true, laidKinds := [.data, .data], laidTests := true, laidLooks := .later }
def SumMacCardSaid : Prop := Claim7.holds Tryd.pinned (.plain (OpenSpec.ofChange sumMacSpec)) sumMacCard

/-- THE TIED CARD OF 'wharfingerlaw01.SumEnds'. -/
def sumEndsCard : Claim7 := { stood := { row := sumEndsRow, standIns := [], harness := (true, "321f37d5780c0b2f032c8759e39364fff42c1c30b2d5c63ffba6072835e56ea2"), looks := true }, kinds := [], alts := [], laidByText := true, laidKinds := [.data, .data], laidTests := true, laidLooks := .later }
def SumEndsCardSaid : Prop := Claim7.holds Tryd.pinned (.plain (OpenSpec.ofChange sumEndsSpec)) sumEndsCard

/-- THE TIED CARD OF 'wharfingerlaw01.SumKeys'. -/
def sumKeysCard : Claim7 := { stood := { row := sumKeysRow, standIns := [], harness := (true, "321f37d5780c0b2f032c8759e39364fff42c1c30b2d5c63ffba6072835e56ea2"), looks := true }, kinds := [], alts := [], laidByText := true, laidKinds := [.data, .data], laidTests := true, laidLooks := .later }
def SumKeysCardSaid : Prop := Claim7.holds Tryd.pinned (.plain (OpenSpec.ofChange sumKeysSpec)) sumKeysCard

/-- THE TIED CARD OF 'wharfingerlaw03.CodeReads'. -/
def codeReadsCard : Claim7 := { stood := { row := codeReadsRow, standIns := [], harness := (true, "321f37d5780c0b2f032c8759e39364fff42c1c30b2d5c63ffba6072835e56ea2"), looks := true }, kinds := [], alts := [], laidByText := true, laidKinds := [.handle], laidTests := true, laidLooks := .later }
def CodeReadsCardSaid : Prop := Claim7.holds Tryd.pinned (.plain (OpenSpec.ofChange codeReadsSpec)) codeReadsCard

/-- THE TIED CARD OF 'wharfingerlaw03.CodeBack'. -/
def codeBackCard : Claim7 := { stood := { row := codeBackRow, standIns := [], harness := (true, "321f37d5780c0b2f032c8759e39364fff42c1c30b2d5c63ffba6072835e56ea2"), looks := true }, kinds := [], alts := [], laidByText := true, laidKinds := [.handle], laidTests := true, laidLooks := .later }
def CodeBackCardSaid : Prop := Claim7.holds Tryd.pinned (.plain (OpenSpec.ofChange codeBackSpec)) codeBackCard

/-- THE TIED CARD OF 'wharfingerlaw03.CodeErrors'. -/
def codeErrorsCard : Claim7 := { stood := { row := codeErrorsRow, standIns := [], harness := (true, "321f37d5780c0b2f032c8759e39364fff42c1c30b2d5c63ffba6072835e56ea2"), looks := true }, kinds := [], alts := [], laidByText := true, laidKinds := [.handle], laidTests := true, laidLooks := .later }
def CodeErrorsCardSaid : Prop := Claim7.holds Tryd.pinned (.plain (OpenSpec.ofChange codeErrorsSpec)) codeErrorsCard

/-- THE TIED CARD OF 'wharfingerlaw03.CodeStands'. -/
def codeStandsCard : Claim7 := { stood := { row := codeStandsRow, standIns := [], harness := (true, "321f37d5780c0b2f032c8759e39364fff42c1c30b2d5c63ffba6072835e56ea2"), looks := true }, kinds := [], alts := [], laidByText := true, laidKinds := [.handle], laidTests := true, laidLooks := .later }
def CodeStandsCardSaid : Prop := Claim7.holds Tryd.pinned (.plain (OpenSpec.ofChange codeStandsSpec)) codeStandsCard

/-- THE TIED CARD OF 'wharfingerlaw03.CodeLong'. -/
def codeLongCard : Claim7 := { stood := { row := codeLongRow, standIns := [], harness := (true, "321f37d5780c0b2f032c8759e39364fff42c1c30b2d5c63ffba6072835e56ea2"), looks := true }, kinds := [], alts := [], laidByText := true, laidKinds := [.handle], laidTests := true, laidLooks := .later }
def CodeLongCardSaid : Prop := Claim7.holds Tryd.pinned (.plain (OpenSpec.ofChange codeLongSpec)) codeLongCard

/-- THE SECOND FORM's CARD OF 'wharfingerlaw01.SumOf'. -/
def sumOfUptoCard : Claim7 := { stood := { row := sumOfUptoRow, standIns := [], harness := (true, "321f37d5780c0b2f032c8759e39364fff42c1c30b2d5c63ffba6072835e56ea2"), looks := true }, kinds := [], alts := [], laidByText := true, laidKinds := [.data, .data], laidTests := true, laidLooks := .later }
def SumOfUptoCardSaid : Prop := Claim7.holds Tryd.pinned (.plain (OpenSpec.upto sumOfSpec)) sumOfUptoCard

/-- THE SECOND FORM's CARD OF 'wharfingerlaw01.SumCut'. -/
def sumCutUptoCard : Claim7 := { stood := { row := sumCutUptoRow, standIns := [], harness := (true, "321f37d5780c0b2f032c8759e39364fff42c1c30b2d5c63ffba6072835e56ea2"), looks := true }, kinds := [], alts := [], laidByText := true, laidKinds := [.data, .data], laidTests := true, laidLooks := .later }
def SumCutUptoCardSaid : Prop := Claim7.holds Tryd.pinned (.plain (OpenSpec.upto sumCutSpec)) sumCutUptoCard

/-- THE SECOND FORM's CARD OF 'wharfingerlaw01.SumMac'. -/
def sumMacUptoCard : Claim7 := { stood := { row := sumMacUptoRow, standIns := [], harness := (true, "321f37d5780c0b2f032c8759e39364fff42c1c30b2d5c63ffba6072835e56ea2"), looks := true }, kinds := [], alts := [], laidByText := true, laidKinds := [.data, .data], laidTests := true, laidLooks := .later }
def SumMacUptoCardSaid : Prop := Claim7.holds Tryd.pinned (.plain (OpenSpec.upto sumMacSpec)) sumMacUptoCard

/-- THE SECOND FORM's CARD OF 'wharfingerlaw01.SumEnds'. -/
def sumEndsUptoCard : Claim7 := { stood := { row := sumEndsUptoRow, standIns := [], harness := (true, "321f37d5780c0b2f032c8759e39364fff42c1c30b2d5c63ffba6072835e56ea2"), looks := true }, kinds := [], alts := [], laidByText := true, laidKinds := [.data, .data], laidTests := true, laidLooks := .later }
def SumEndsUptoCardSaid : Prop := Claim7.holds Tryd.pinned (.plain (OpenSpec.upto sumEndsSpec)) sumEndsUptoCard

/-- THE SECOND FORM's CARD OF 'wharfingerlaw01.SumKeys'. -/
def sumKeysUptoCard : Claim7 := { stood := { row := sumKeysUptoRow, standIns := [], harness := (true, "321f37d5780c0b2f032c8759e39364fff42c1c30b2d5c63ffba6072835e56ea2"), looks := true }, kinds := [], alts := [], laidByText := true, laidKinds := [.data, .data], laidTests := true, laidLooks := .later }
def SumKeysUptoCardSaid : Prop := Claim7.holds Tryd.pinned (.plain (OpenSpec.upto sumKeysSpec)) sumKeysUptoCard

/-- THE SECOND FORM's CARD OF 'wharfingerlaw03.CodeReads'. -/
def codeReadsUptoCard : Claim7 := { stood := { row := codeReadsUptoRow, standIns := [], harness := (true, "321f37d5780c0b2f032c8759e39364fff42c1c30b2d5c63ffba6072835e56ea2"), looks := true }, kinds := [], alts := [], laidByText := true, laidKinds := [.handle], laidTests := true, laidLooks := .later }
def CodeReadsUptoCardSaid : Prop := Claim7.holds Tryd.pinned (.plain (OpenSpec.upto codeReadsSpec)) codeReadsUptoCard

/-- THE SECOND FORM's CARD OF 'wharfingerlaw03.CodeBack'. -/
def codeBackUptoCard : Claim7 := { stood := { row := codeBackUptoRow, standIns := [], harness := (true, "321f37d5780c0b2f032c8759e39364fff42c1c30b2d5c63ffba6072835e56ea2"), looks := true }, kinds := [], alts := [], laidByText := true, laidKinds := [.handle], laidTests := true, laidLooks := .later }
def CodeBackUptoCardSaid : Prop := Claim7.holds Tryd.pinned (.plain (OpenSpec.upto codeBackSpec)) codeBackUptoCard

/-- THE SECOND FORM's CARD OF 'wharfingerlaw03.CodeErrors'. -/
def codeErrorsUptoCard : Claim7 := { stood := { row := codeErrorsUptoRow, standIns := [], harness := (true, "321f37d5780c0b2f032c8759e39364fff42c1c30b2d5c63ffba6072835e56ea2"), looks := true }, kinds := [], alts := [], laidByText := true, laidKinds := [.handle], laidTests := true, laidLooks := .later }
def CodeErrorsUptoCardSaid : Prop := Claim7.holds Tryd.pinned (.plain (OpenSpec.upto codeErrorsSpec)) codeErrorsUptoCard

/-- THE SECOND FORM's CARD OF 'wharfingerlaw03.CodeStands'. -/
def codeStandsUptoCard : Claim7 := { stood := { row := codeStandsUptoRow, standIns := [], harness := (true, "321f37d5780c0b2f032c8759e39364fff42c1c30b2d5c63ffba6072835e56ea2"), looks := true }, kinds := [], alts := [], laidByText := true, laidKinds := [.handle], laidTests := true, laidLooks := .later }
def CodeStandsUptoCardSaid : Prop := Claim7.holds Tryd.pinned (.plain (OpenSpec.upto codeStandsSpec)) codeStandsUptoCard

/-- THE SECOND FORM's CARD OF 'wharfingerlaw03.CodeLong'. -/
def codeLongUptoCard : Claim7 := { stood := { row := codeLongUptoRow, standIns := [], harness := (true, "321f37d5780c0b2f032c8759e39364fff42c1c30b2d5c63ffba6072835e56ea2"), looks := true }, kinds := [], alts := [], laidByText := true, laidKinds := [.handle], laidTests := true, laidLooks := .later }
def CodeLongUptoCardSaid : Prop := Claim7.holds Tryd.pinned (.plain (OpenSpec.upto codeLongSpec)) codeLongUptoCard
end Rows
end Go.Proofs.YtjojckdoocbelaaDoor
