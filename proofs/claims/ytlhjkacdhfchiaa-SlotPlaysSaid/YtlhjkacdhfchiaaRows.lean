/-
  No cell of these rows narrows 'for every input' (looked for: loops, veiled, ifaces, maps, wideKeys, modest, calm, conditions, laid).
  DERIVED. THE GIVEN ROWS OF THIS SEAT. 5 by the template 'for every input the law returns true; each argument reads behind the call as it read before'; 0 by the template 'total and deterministic' (their statements: YtlhjkacdhfchiaaTotals.lean).
  GIVEN WITH THE SEED: the statements are not yours to turn. If you find one false, say at which input.
  Laid BY PROGRAM, IN A SANDBOX (cutbox-rows.mjs): the forced cells as the released guide's own fill.sh prints them over the translation e75bcb58c7326593… (all of the seat's roots in one cut). By AI agents, Wed Nov 11 2026. No macro, syntax, notation, axiom, sorry.
-/
import Derived.Test.YtlhjkacdhfchiaaChecked
import GoSem.Claim
import GoSem.ClaimJoined
import GoSem.ClaimMapViews
import Derived.JoinedTies
import Derived.KernelRfl
namespace Go.Proofs.Ytlhjkacdhfchiaa
/- THE CELL 'sum', in the pinned program and in every row, IS THE sha256 OF THE DUMP (.gsa) THAT YtlhjkacdhfchiaaProg.lean LOADS. Nothing in Lean hashes anything: it is a label: what it is worth is what the hold of that sum in a sandbox is worth. -/
noncomputable def Try.pinned : Pinned := { name := "ytlhjkacdhfchiaa", sum := "e75bcb58c732659388930be2dcda1de1a7de56d59b6aa3b3b3334cdf60defa45", checked := Try.checked }
namespace Rows
def none {H : Type} : Left H := { results := [], args := [] }

/-- 'wharfingerlaw15.SlotPlays': WHATEVER THE INPUT: true; the input reads as it did. -/
def slotPlaysSpec : ChangeSpec := { name := "slotPlays", fn := fun _ => fun
  | [d1, d2] => { results := [.lit (.bool true)], args := [d1, d2] }
  | _ => none }
def slotPlaysRow : OpenClaim := { program := "ytlhjkacdhfchiaa", sum := "e75bcb58c732659388930be2dcda1de1a7de56d59b6aa3b3b3334cdf60defa45", func := "wharfinger/wharfingerlaw15.SlotPlays", spec := "slotPlays", apart := false }
def SlotPlaysSaid : Prop := slotPlaysRow.holds Try.pinned (OpenSpec.ofChange slotPlaysSpec)

/-- ITS FALSE NEIGHBOUR: 'it returns false'. Refute it at one input. -/
def slotPlaysWrong : ChangeSpec := { name := "slotPlays", fn := fun _ => fun
  | [d1, d2] => { results := [.lit (.bool false)], args := [d1, d2] }
  | _ => none }
def SlotPlaysWrongFalsely : Prop := slotPlaysRow.holds Try.pinned (OpenSpec.ofChange slotPlaysWrong)

/-- 'wharfingerlaw15.SlotLimits': WHATEVER THE INPUT: true; the input reads as it did. -/
def slotLimitsSpec : ChangeSpec := { name := "slotLimits", fn := fun _ => fun
  | [d1, d2] => { results := [.lit (.bool true)], args := [d1, d2] }
  | _ => none }
def slotLimitsRow : OpenClaim := { program := "ytlhjkacdhfchiaa", sum := "e75bcb58c732659388930be2dcda1de1a7de56d59b6aa3b3b3334cdf60defa45", func := "wharfinger/wharfingerlaw15.SlotLimits", spec := "slotLimits", apart := false }
def SlotLimitsSaid : Prop := slotLimitsRow.holds Try.pinned (OpenSpec.ofChange slotLimitsSpec)

/-- ITS FALSE NEIGHBOUR: 'it returns false'. Refute it at one input. -/
def slotLimitsWrong : ChangeSpec := { name := "slotLimits", fn := fun _ => fun
  | [d1, d2] => { results := [.lit (.bool false)], args := [d1, d2] }
  | _ => none }
def SlotLimitsWrongFalsely : Prop := slotLimitsRow.holds Try.pinned (OpenSpec.ofChange slotLimitsWrong)

/-- 'wharfingerlaw15.SlotApart': WHATEVER THE INPUT: true; the input reads as it did. -/
def slotApartSpec : ChangeSpec := { name := "slotApart", fn := fun _ => fun
  | [d1, d2] => { results := [.lit (.bool true)], args := [d1, d2] }
  | _ => none }
def slotApartRow : OpenClaim := { program := "ytlhjkacdhfchiaa", sum := "e75bcb58c732659388930be2dcda1de1a7de56d59b6aa3b3b3334cdf60defa45", func := "wharfinger/wharfingerlaw15.SlotApart", spec := "slotApart", apart := false }
def SlotApartSaid : Prop := slotApartRow.holds Try.pinned (OpenSpec.ofChange slotApartSpec)

/-- ITS FALSE NEIGHBOUR: 'it returns false'. Refute it at one input. -/
def slotApartWrong : ChangeSpec := { name := "slotApart", fn := fun _ => fun
  | [d1, d2] => { results := [.lit (.bool false)], args := [d1, d2] }
  | _ => none }
def SlotApartWrongFalsely : Prop := slotApartRow.holds Try.pinned (OpenSpec.ofChange slotApartWrong)

/-- 'wharfingerlaw16.WordOwn': WHATEVER THE INPUT: true; the input reads as it did. -/
def wordOwnSpec : ChangeSpec := { name := "wordOwn", fn := fun _ => fun
  | [d1, d2] => { results := [.lit (.bool true)], args := [d1, d2] }
  | _ => none }
def wordOwnRow : OpenClaim := { program := "ytlhjkacdhfchiaa", sum := "e75bcb58c732659388930be2dcda1de1a7de56d59b6aa3b3b3334cdf60defa45", func := "wharfinger/wharfingerlaw16.WordOwn", spec := "wordOwn", inPlace := ["slices.overlaps[byte]"], unfollowed := true, recurses := true, apart := false }
def WordOwnSaid : Prop := wordOwnRow.holds Try.pinned (OpenSpec.ofChange wordOwnSpec)

/-- ITS FALSE NEIGHBOUR: 'it returns false'. Refute it at one input. -/
def wordOwnWrong : ChangeSpec := { name := "wordOwn", fn := fun _ => fun
  | [d1, d2] => { results := [.lit (.bool false)], args := [d1, d2] }
  | _ => none }
def WordOwnWrongFalsely : Prop := wordOwnRow.holds Try.pinned (OpenSpec.ofChange wordOwnWrong)

/-- 'wharfingerlaw16.WordRoom': WHATEVER THE INPUT: true; the input reads as it did. -/
def wordRoomSpec : ChangeSpec := { name := "wordRoom", fn := fun _ => fun
  | [d1, d2] => { results := [.lit (.bool true)], args := [d1, d2] }
  | _ => none }
def wordRoomRow : OpenClaim := { program := "ytlhjkacdhfchiaa", sum := "e75bcb58c732659388930be2dcda1de1a7de56d59b6aa3b3b3334cdf60defa45", func := "wharfinger/wharfingerlaw16.WordRoom", spec := "wordRoom", inPlace := ["slices.overlaps[byte]"], unfollowed := true, recurses := true, apart := false }
def WordRoomSaid : Prop := wordRoomRow.holds Try.pinned (OpenSpec.ofChange wordRoomSpec)

/-- ITS FALSE NEIGHBOUR: 'it returns false'. Refute it at one input. -/
def wordRoomWrong : ChangeSpec := { name := "wordRoom", fn := fun _ => fun
  | [d1, d2] => { results := [.lit (.bool false)], args := [d1, d2] }
  | _ => none }
def WordRoomWrongFalsely : Prop := wordRoomRow.holds Try.pinned (OpenSpec.ofChange wordRoomWrong)

/- THE SECOND FORM. 'bulk': how many values and letters a reading holds, each counted each time it is reached (what is shared counts as often as it is met; a slice's spare places count too). A statement '..UptoSaid' is the law's where the arguments, and the package variables that the reading takes, are together of bulk at most 1048576: NARROWER than '..Said'. Prove '..Said' where nothing that the law and all that it calls make is longer than what came in: it says more and counts as full. Else prove '..UptoSaid'. A law counts once. -/
mutual
def uptoBulk {H : Type} : DataW H → Nat
  | .lit (.string bytes) => bytes.length + 1
  | .lit _ => 1
  | .nil => 1
  | .ptr d => uptoBulk d + 1
  | .slice elems spare => uptoBulkAll elems + uptoBulkAll spare + 1
  | .agg parts => uptoBulkAll parts + 1
  | .iface _ d => uptoBulk d + 1
  | .map entries => uptoBulkEntries entries + 1
  | .held _ => 1
def uptoBulkAll {H : Type} : List (DataW H) → Nat
  | [] => 0
  | d :: r => uptoBulk d + uptoBulkAll r
def uptoBulkEntries {H : Type} : List (Lit × DataW H) → Nat
  | [] => 0
  | x :: r => uptoBulkEntry x + uptoBulkEntries r
def uptoBulkEntry {H : Type} : Lit × DataW H → Nat
  | (.string bytes, d) => bytes.length + uptoBulk d + 1
  | (_, d) => uptoBulk d + 1
 end
def uptoSmall : (H : Type) → List (DataW H) → Bool := fun _ ds => decide (uptoBulkAll ds ≤ 1048576)
def OpenSpec.upto (s : _root_.Go.ChangeSpec) : _root_.Go.OpenSpec := { _root_.Go.OpenSpec.ofChange s with cond := some uptoSmall }

/-- 'wharfingerlaw15.SlotPlays', WHERE WHAT IT READS IS OF BULK AT MOST 1048576: true; the input reads as it did. -/
def slotPlaysUptoRow : OpenClaim := { program := "ytlhjkacdhfchiaa", sum := "e75bcb58c732659388930be2dcda1de1a7de56d59b6aa3b3b3334cdf60defa45", func := "wharfinger/wharfingerlaw15.SlotPlays", spec := "slotPlays", apart := false, narrowed := true }
def SlotPlaysUptoSaid : Prop := slotPlaysUptoRow.holds Try.pinned (OpenSpec.upto slotPlaysSpec)

/-- 'wharfingerlaw15.SlotLimits', WHERE WHAT IT READS IS OF BULK AT MOST 1048576: true; the input reads as it did. -/
def slotLimitsUptoRow : OpenClaim := { program := "ytlhjkacdhfchiaa", sum := "e75bcb58c732659388930be2dcda1de1a7de56d59b6aa3b3b3334cdf60defa45", func := "wharfinger/wharfingerlaw15.SlotLimits", spec := "slotLimits", apart := false, narrowed := true }
def SlotLimitsUptoSaid : Prop := slotLimitsUptoRow.holds Try.pinned (OpenSpec.upto slotLimitsSpec)

/-- 'wharfingerlaw15.SlotApart', WHERE WHAT IT READS IS OF BULK AT MOST 1048576: true; the input reads as it did. -/
def slotApartUptoRow : OpenClaim := { program := "ytlhjkacdhfchiaa", sum := "e75bcb58c732659388930be2dcda1de1a7de56d59b6aa3b3b3334cdf60defa45", func := "wharfinger/wharfingerlaw15.SlotApart", spec := "slotApart", apart := false, narrowed := true }
def SlotApartUptoSaid : Prop := slotApartUptoRow.holds Try.pinned (OpenSpec.upto slotApartSpec)

/-- 'wharfingerlaw16.WordOwn', WHERE WHAT IT READS IS OF BULK AT MOST 1048576: true; the input reads as it did. -/
def wordOwnUptoRow : OpenClaim := { program := "ytlhjkacdhfchiaa", sum := "e75bcb58c732659388930be2dcda1de1a7de56d59b6aa3b3b3334cdf60defa45", func := "wharfinger/wharfingerlaw16.WordOwn", spec := "wordOwn", inPlace := ["slices.overlaps[byte]"], unfollowed := true, recurses := true, apart := false, narrowed := true }
def WordOwnUptoSaid : Prop := wordOwnUptoRow.holds Try.pinned (OpenSpec.upto wordOwnSpec)

/-- 'wharfingerlaw16.WordRoom', WHERE WHAT IT READS IS OF BULK AT MOST 1048576: true; the input reads as it did. -/
def wordRoomUptoRow : OpenClaim := { program := "ytlhjkacdhfchiaa", sum := "e75bcb58c732659388930be2dcda1de1a7de56d59b6aa3b3b3334cdf60defa45", func := "wharfinger/wharfingerlaw16.WordRoom", spec := "wordRoom", inPlace := ["slices.overlaps[byte]"], unfollowed := true, recurses := true, apart := false, narrowed := true }
def WordRoomUptoSaid : Prop := wordRoomUptoRow.holds Try.pinned (OpenSpec.upto wordRoomSpec)

end Rows
end Go.Proofs.Ytlhjkacdhfchiaa
