/-
  DERIVED. GIVEN WITH THE SEED: THE CARDS: each row of YtlhjkacdhfchiaaDoorRows.lean that lists a variable, with what it lists TIED to the program's text (the seventh form; the later family's looks); each row that meets fmt, with fmt's text TOLD by the authors' own Lean function (tested against real Go, not proved from fmt's source: count such statements apart). THE CARD IS WHAT COUNTS. Prove the row's statement (the work); the ties are given (YtlhjkacdhfchiaaDoorTie.lean); close each card by the builder's one call (the guide's Derived/Test/ToyasCard.lean, 'card_holds'). Laid BY PROGRAM, IN A SANDBOX (cutbox-door.mjs). By AI agents, Wed Nov 11 2026. No macro, syntax, notation, axiom, sorry.
-/
import Derived.Test.YtlhjkacdhfchiaaDoorRows
import GoSem.ClaimSeven
namespace Go.Proofs.YtlhjkacdhfchiaaDoor
namespace Rows

/-- THE TIED CARD OF 'wharfingerlaw05.FeedSame'. -/
def feedSameCard : Claim7 := { stood := { row := feedSameRow, standIns := [], harness := (true, "69ca7b387c9075d120455b6ecc88a2c0644af35e5d6a5f5d5d165cbb9edb9a83"), looks := true }, kinds := [], alts := [], laidByText := true, laidKinds := [.handle], laidTests := true, laidLooks := .later }
def FeedSameCardSaid : Prop := Claim7.holds Tryd.pinned (.plain (OpenSpec.ofChange feedSameSpec)) feedSameCard

/-- THE TIED CARD OF 'wharfingerlaw12.LockPlays'. -/
def lockPlaysCard : Claim7 := { stood := { row := lockPlaysRow, standIns := [], harness := (true, "69ca7b387c9075d120455b6ecc88a2c0644af35e5d6a5f5d5d165cbb9edb9a83"), looks := true }, kinds := [], alts := [], laidByText := true, laidKinds := [.data, .handle, .pinned], laidTests := true, laidLooks := .later }
def LockPlaysCardSaid : Prop := Claim7.holds Tryd.pinned (.plain (OpenSpec.ofChange lockPlaysSpec)) lockPlaysCard

/-- THE TIED CARD OF 'wharfingerlaw12.LockAlone'. -/
def lockAloneCard : Claim7 := { stood := { row := lockAloneRow, standIns := [], harness := (true, "69ca7b387c9075d120455b6ecc88a2c0644af35e5d6a5f5d5d165cbb9edb9a83"), looks := true }, kinds := [], alts := [], laidByText := true, laidKinds := [.data, .pinned], laidTests := true, laidLooks := .later }
def LockAloneCardSaid : Prop := Claim7.holds Tryd.pinned (.plain (OpenSpec.ofChange lockAloneSpec)) lockAloneCard

/-- THE TIED CARD OF 'wharfingerlaw12.LockEnds'. -/
def lockEndsCard : Claim7 := { stood := { row := lockEndsRow, standIns := [], harness := (true, "69ca7b387c9075d120455b6ecc88a2c0644af35e5d6a5f5d5d165cbb9edb9a83"), looks := true }, kinds := [], alts := [], laidByText := true, laidKinds := [.data, .pinned], laidTests := true, laidLooks := .later }
def LockEndsCardSaid : Prop := Claim7.holds Tryd.pinned (.plain (OpenSpec.ofChange lockEndsSpec)) lockEndsCard

/-- THE TIED CARD OF 'wharfingerlaw12.LockMany'. -/
def lockManyCard : Claim7 := { stood := { row := lockManyRow, standIns := [], harness := (true, "69ca7b387c9075d120455b6ecc88a2c0644af35e5d6a5f5d5d165cbb9edb9a83"), looks := true }, kinds := [], alts := [], laidByText := true, laidKinds := [.data, .handle, .pinned], laidTests := true, laidLooks := .later }
def LockManyCardSaid : Prop := Claim7.holds Tryd.pinned (.plain (OpenSpec.ofChange lockManySpec)) lockManyCard

/-- THE TIED CARD OF 'wharfingerlaw12.LockAgain'. -/
def lockAgainCard : Claim7 := { stood := { row := lockAgainRow, standIns := [], harness := (true, "69ca7b387c9075d120455b6ecc88a2c0644af35e5d6a5f5d5d165cbb9edb9a83"), looks := true }, kinds := [], alts := [], laidByText := true, laidKinds := [.data, .pinned], laidTests := true, laidLooks := .later }
def LockAgainCardSaid : Prop := Claim7.holds Tryd.pinned (.plain (OpenSpec.ofChange lockAgainSpec)) lockAgainCard

/-- THE TIED CARD OF 'wharfingerlaw16.WordKinds'. -/
def wordKindsCard : Claim7 := { stood := { row := wordKindsRow, standIns := [], harness := (true, "69ca7b387c9075d120455b6ecc88a2c0644af35e5d6a5f5d5d165cbb9edb9a83"), looks := true }, kinds := [], alts := [], laidByText := true, laidKinds := [.handle], laidTests := true, laidLooks := .later }
def WordKindsCardSaid : Prop := Claim7.holds Tryd.pinned (.plain (OpenSpec.ofChange wordKindsSpec)) wordKindsCard

/-- THE SECOND FORM's CARD OF 'wharfingerlaw05.FeedSame'. -/
def feedSameUptoCard : Claim7 := { stood := { row := feedSameUptoRow, standIns := [], harness := (true, "69ca7b387c9075d120455b6ecc88a2c0644af35e5d6a5f5d5d165cbb9edb9a83"), looks := true }, kinds := [], alts := [], laidByText := true, laidKinds := [.handle], laidTests := true, laidLooks := .later }
def FeedSameUptoCardSaid : Prop := Claim7.holds Tryd.pinned (.plain (OpenSpec.upto feedSameSpec)) feedSameUptoCard

/-- THE SECOND FORM's CARD OF 'wharfingerlaw12.LockPlays'. -/
def lockPlaysUptoCard : Claim7 := { stood := { row := lockPlaysUptoRow, standIns := [], harness := (true, "69ca7b387c9075d120455b6ecc88a2c0644af35e5d6a5f5d5d165cbb9edb9a83"), looks := true }, kinds := [], alts := [], laidByText := true, laidKinds := [.data, .handle, .pinned], laidTests := true, laidLooks := .later }
def LockPlaysUptoCardSaid : Prop := Claim7.holds Tryd.pinned (.plain (OpenSpec.upto lockPlaysSpec)) lockPlaysUptoCard

/-- THE SECOND FORM's CARD OF 'wharfingerlaw12.LockAlone'. -/
def lockAloneUptoCard : Claim7 := { stood := { row := lockAloneUptoRow, standIns := [], harness := (true, "69ca7b387c9075d120455b6ecc88a2c0644af35e5d6a5f5d5d165cbb9edb9a83"), looks := true }, kinds := [], alts := [], laidByText := true, laidKinds := [.data, .pinned], laidTests := true, laidLooks := .later }
def LockAloneUptoCardSaid : Prop := Claim7.holds Tryd.pinned (.plain (OpenSpec.upto lockAloneSpec)) lockAloneUptoCard

/-- THE SECOND FORM's CARD OF 'wharfingerlaw12.LockEnds'. -/
def lockEndsUptoCard : Claim7 := { stood := { row := lockEndsUptoRow, standIns := [], harness := (true, "69ca7b387c9075d120455b6ecc88a2c0644af35e5d6a5f5d5d165cbb9edb9a83"), looks := true }, kinds := [], alts := [], laidByText := true, laidKinds := [.data, .pinned], laidTests := true, laidLooks := .later }
def LockEndsUptoCardSaid : Prop := Claim7.holds Tryd.pinned (.plain (OpenSpec.upto lockEndsSpec)) lockEndsUptoCard

/-- THE SECOND FORM's CARD OF 'wharfingerlaw12.LockMany'. -/
def lockManyUptoCard : Claim7 := { stood := { row := lockManyUptoRow, standIns := [], harness := (true, "69ca7b387c9075d120455b6ecc88a2c0644af35e5d6a5f5d5d165cbb9edb9a83"), looks := true }, kinds := [], alts := [], laidByText := true, laidKinds := [.data, .handle, .pinned], laidTests := true, laidLooks := .later }
def LockManyUptoCardSaid : Prop := Claim7.holds Tryd.pinned (.plain (OpenSpec.upto lockManySpec)) lockManyUptoCard

/-- THE SECOND FORM's CARD OF 'wharfingerlaw12.LockAgain'. -/
def lockAgainUptoCard : Claim7 := { stood := { row := lockAgainUptoRow, standIns := [], harness := (true, "69ca7b387c9075d120455b6ecc88a2c0644af35e5d6a5f5d5d165cbb9edb9a83"), looks := true }, kinds := [], alts := [], laidByText := true, laidKinds := [.data, .pinned], laidTests := true, laidLooks := .later }
def LockAgainUptoCardSaid : Prop := Claim7.holds Tryd.pinned (.plain (OpenSpec.upto lockAgainSpec)) lockAgainUptoCard

/-- THE SECOND FORM's CARD OF 'wharfingerlaw16.WordKinds'. -/
def wordKindsUptoCard : Claim7 := { stood := { row := wordKindsUptoRow, standIns := [], harness := (true, "69ca7b387c9075d120455b6ecc88a2c0644af35e5d6a5f5d5d165cbb9edb9a83"), looks := true }, kinds := [], alts := [], laidByText := true, laidKinds := [.handle], laidTests := true, laidLooks := .later }
def WordKindsUptoCardSaid : Prop := Claim7.holds Tryd.pinned (.plain (OpenSpec.upto wordKindsSpec)) wordKindsUptoCard
end Rows
end Go.Proofs.YtlhjkacdhfchiaaDoor
