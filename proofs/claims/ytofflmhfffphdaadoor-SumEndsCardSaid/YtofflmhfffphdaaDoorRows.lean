/-
  NARROWER THAN 'FOR EVERY INPUT', by the rows' own cells (each row's printed sentence says how): SumOf: laid · SumCut: laid · SumMac: laid · SumEnds: laid · SumKeys: laid · FeedPieces: laid · FeedSame: laid · FeedHolds: laid · FeedEnds: laid · FeedWrong: laid · FeedOwn: laid.
  DERIVED. THE GIVEN ROWS OF THIS SEAT. 11 by the template 'for every input the law returns true; each argument reads behind the call as it read before'; 0 by the template 'total and deterministic' (their statements: YtofflmhfffphdaaDoorTotals.lean).
  GIVEN WITH THE SEED: the statements are not yours to turn. If you find one false, say at which input.
  Laid BY PROGRAM, IN A SANDBOX (cutbox-rows.mjs): the forced cells as the released guide's own fill.sh prints them over the translation d832e948bd35fe90… (all of the seat's roots in one cut). By AI agents, Wed Nov 11 2026. No macro, syntax, notation, axiom, sorry.
-/
import Derived.Test.YtofflmhfffphdaaDoorChecked
import GoSem.Claim
import GoSem.ClaimJoined
import GoSem.ClaimMapViews
import Derived.JoinedTies
import Derived.KernelRfl
namespace Go.Proofs.YtofflmhfffphdaaDoor
/- THE CELL 'sum', in the pinned program and in every row, IS THE sha256 OF THE DUMP (.gsa) THAT YtofflmhfffphdaaDoorProg.lean LOADS. Nothing in Lean hashes anything: it is a label: what it is worth is what the hold of that sum in a sandbox is worth. -/
noncomputable def Tryd.pinned : Pinned := { name := "ytofflmhfffphdaadoor", sum := "d832e948bd35fe901ec4c14c9bf84389704d59a4cd85da8804dbffb28dadf929", checked := Tryd.checked }
namespace Rows
def none {H : Type} : Left H := { results := [], args := [] }

/- WHAT THE LISTED PACKAGE-LEVEL VARIABLES READ AS WHEN THE CALL BEGINS. Each datum BY PROGRAM (the guide's laid-datum.mjs) off the statement by which the dump's own 'gosem.cut.vars' lays the variable. In a bare row this is a premise. The card (YtofflmhfffphdaaDoorCards.lean) ties it to the program's text. -/
def laid_wharfinger_sum_firstState {H : Type} : DataW H := .agg [.lit (.int .u32 1779033703), .lit (.int .u32 3144134277), .lit (.int .u32 1013904242), .lit (.int .u32 2773480762), .lit (.int .u32 1359893119), .lit (.int .u32 2600822924), .lit (.int .u32 528734635), .lit (.int .u32 1541459225)]
def laid_wharfinger_sum_roundWords {H : Type} : DataW H := .agg [.lit (.int .u32 1116352408), .lit (.int .u32 1899447441), .lit (.int .u32 3049323471), .lit (.int .u32 3921009573), .lit (.int .u32 961987163), .lit (.int .u32 1508970993), .lit (.int .u32 2453635748), .lit (.int .u32 2870763221), .lit (.int .u32 3624381080), .lit (.int .u32 310598401), .lit (.int .u32 607225278), .lit (.int .u32 1426881987), .lit (.int .u32 1925078388), .lit (.int .u32 2162078206), .lit (.int .u32 2614888103), .lit (.int .u32 3248222580), .lit (.int .u32 3835390401), .lit (.int .u32 4022224774), .lit (.int .u32 264347078), .lit (.int .u32 604807628), .lit (.int .u32 770255983), .lit (.int .u32 1249150122), .lit (.int .u32 1555081692), .lit (.int .u32 1996064986), .lit (.int .u32 2554220882), .lit (.int .u32 2821834349), .lit (.int .u32 2952996808), .lit (.int .u32 3210313671), .lit (.int .u32 3336571891), .lit (.int .u32 3584528711), .lit (.int .u32 113926993), .lit (.int .u32 338241895), .lit (.int .u32 666307205), .lit (.int .u32 773529912), .lit (.int .u32 1294757372), .lit (.int .u32 1396182291), .lit (.int .u32 1695183700), .lit (.int .u32 1986661051), .lit (.int .u32 2177026350), .lit (.int .u32 2456956037), .lit (.int .u32 2730485921), .lit (.int .u32 2820302411), .lit (.int .u32 3259730800), .lit (.int .u32 3345764771), .lit (.int .u32 3516065817), .lit (.int .u32 3600352804), .lit (.int .u32 4094571909), .lit (.int .u32 275423344), .lit (.int .u32 430227734), .lit (.int .u32 506948616), .lit (.int .u32 659060556), .lit (.int .u32 883997877), .lit (.int .u32 958139571), .lit (.int .u32 1322822218), .lit (.int .u32 1537002063), .lit (.int .u32 1747873779), .lit (.int .u32 1955562222), .lit (.int .u32 2024104815), .lit (.int .u32 2227730452), .lit (.int .u32 2361852424), .lit (.int .u32 2428436474), .lit (.int .u32 2756734187), .lit (.int .u32 3204031479), .lit (.int .u32 3329325298)]
def laid_errors_errorType {H : Type} : DataW H := .iface "internal/reflectlite.rtype" (.agg [.ptr (.lit (.string [101, 114, 114, 111, 114]))])

/-- 'wharfingerlaw01.SumOf': WHATEVER THE INPUT: true; the input reads as it did. -/
def sumOfSpec : ChangeSpec := { name := "sumOf", fn := fun _ => fun
  | [d] => { results := [.lit (.bool true)], args := [d] }
  | _ => none }
def sumOfRow : OpenClaim := { program := "ytofflmhfffphdaadoor", sum := "d832e948bd35fe901ec4c14c9bf84389704d59a4cd85da8804dbffb28dadf929", func := "wharfinger/wharfingerlaw01.SumOf", spec := "sumOf", named := ["wharfinger/sum.firstState", "wharfinger/sum.roundWords"], apart := false, laid := [("wharfinger/sum.firstState", laid_wharfinger_sum_firstState), ("wharfinger/sum.roundWords", laid_wharfinger_sum_roundWords)] }
def SumOfSaid : Prop := sumOfRow.holds Tryd.pinned (OpenSpec.ofChange sumOfSpec)

/-- ITS FALSE NEIGHBOUR: 'it returns false'. Refute it at one input. -/
def sumOfWrong : ChangeSpec := { name := "sumOf", fn := fun _ => fun
  | [d] => { results := [.lit (.bool false)], args := [d] }
  | _ => none }
def SumOfWrongFalsely : Prop := sumOfRow.holds Tryd.pinned (OpenSpec.ofChange sumOfWrong)

/-- 'wharfingerlaw01.SumCut': WHATEVER THE INPUT: true; the input reads as it did. -/
def sumCutSpec : ChangeSpec := { name := "sumCut", fn := fun _ => fun
  | [d1, d2] => { results := [.lit (.bool true)], args := [d1, d2] }
  | _ => none }
def sumCutRow : OpenClaim := { program := "ytofflmhfffphdaadoor", sum := "d832e948bd35fe901ec4c14c9bf84389704d59a4cd85da8804dbffb28dadf929", func := "wharfinger/wharfingerlaw01.SumCut", spec := "sumCut", named := ["wharfinger/sum.firstState", "wharfinger/sum.roundWords"], apart := false, laid := [("wharfinger/sum.firstState", laid_wharfinger_sum_firstState), ("wharfinger/sum.roundWords", laid_wharfinger_sum_roundWords)] }
def SumCutSaid : Prop := sumCutRow.holds Tryd.pinned (OpenSpec.ofChange sumCutSpec)

/-- ITS FALSE NEIGHBOUR: 'it returns false'. Refute it at one input. -/
def sumCutWrong : ChangeSpec := { name := "sumCut", fn := fun _ => fun
  | [d1, d2] => { results := [.lit (.bool false)], args := [d1, d2] }
  | _ => none }
def SumCutWrongFalsely : Prop := sumCutRow.holds Tryd.pinned (OpenSpec.ofChange sumCutWrong)

/-- 'wharfingerlaw01.SumMac': WHATEVER THE INPUT: true; the input reads as it did. -/
def sumMacSpec : ChangeSpec := { name := "sumMac", fn := fun _ => fun
  | [d1, d2] => { results := [.lit (.bool true)], args := [d1, d2] }
  | _ => none }
def sumMacRow : OpenClaim := { program := "ytofflmhfffphdaadoor", sum := "d832e948bd35fe901ec4c14c9bf84389704d59a4cd85da8804dbffb28dadf929", func := "wharfinger/wharfingerlaw01.SumMac", spec := "sumMac", named := ["wharfinger/sum.firstState", "wharfinger/sum.roundWords"], apart := false, laid := [("wharfinger/sum.firstState", laid_wharfinger_sum_firstState), ("wharfinger/sum.roundWords", laid_wharfinger_sum_roundWords)] }
def SumMacSaid : Prop := sumMacRow.holds Tryd.pinned (OpenSpec.ofChange sumMacSpec)

/-- ITS FALSE NEIGHBOUR: 'it returns false'. Refute it at one input. -/
def sumMacWrong : ChangeSpec := { name := "sumMac", fn := fun _ => fun
  | [d1, d2] => { results := [.lit (.bool false)], args := [d1, d2] }
  | _ => none }
def SumMacWrongFalsely : Prop := sumMacRow.holds Tryd.pinned (OpenSpec.ofChange sumMacWrong)

/-- 'wharfingerlaw01.SumEnds': WHATEVER THE INPUT: true; the input reads as it did. -/
def sumEndsSpec : ChangeSpec := { name := "sumEnds", fn := fun _ => fun
  | [d1, d2, d3] => { results := [.lit (.bool true)], args := [d1, d2, d3] }
  | _ => none }
def sumEndsRow : OpenClaim := { program := "ytofflmhfffphdaadoor", sum := "d832e948bd35fe901ec4c14c9bf84389704d59a4cd85da8804dbffb28dadf929", func := "wharfinger/wharfingerlaw01.SumEnds", spec := "sumEnds", named := ["wharfinger/sum.firstState", "wharfinger/sum.roundWords"], apart := false, laid := [("wharfinger/sum.firstState", laid_wharfinger_sum_firstState), ("wharfinger/sum.roundWords", laid_wharfinger_sum_roundWords)] }
def SumEndsSaid : Prop := sumEndsRow.holds Tryd.pinned (OpenSpec.ofChange sumEndsSpec)

/-- ITS FALSE NEIGHBOUR: 'it returns false'. Refute it at one input. -/
def sumEndsWrong : ChangeSpec := { name := "sumEnds", fn := fun _ => fun
  | [d1, d2, d3] => { results := [.lit (.bool false)], args := [d1, d2, d3] }
  | _ => none }
def SumEndsWrongFalsely : Prop := sumEndsRow.holds Tryd.pinned (OpenSpec.ofChange sumEndsWrong)

/-- 'wharfingerlaw01.SumKeys': WHATEVER THE INPUT: true; the input reads as it did. -/
def sumKeysSpec : ChangeSpec := { name := "sumKeys", fn := fun _ => fun
  | [d1, d2, d3] => { results := [.lit (.bool true)], args := [d1, d2, d3] }
  | _ => none }
def sumKeysRow : OpenClaim := { program := "ytofflmhfffphdaadoor", sum := "d832e948bd35fe901ec4c14c9bf84389704d59a4cd85da8804dbffb28dadf929", func := "wharfinger/wharfingerlaw01.SumKeys", spec := "sumKeys", named := ["wharfinger/sum.firstState", "wharfinger/sum.roundWords"], apart := false, laid := [("wharfinger/sum.firstState", laid_wharfinger_sum_firstState), ("wharfinger/sum.roundWords", laid_wharfinger_sum_roundWords)] }
def SumKeysSaid : Prop := sumKeysRow.holds Tryd.pinned (OpenSpec.ofChange sumKeysSpec)

/-- ITS FALSE NEIGHBOUR: 'it returns false'. Refute it at one input. -/
def sumKeysWrong : ChangeSpec := { name := "sumKeys", fn := fun _ => fun
  | [d1, d2, d3] => { results := [.lit (.bool false)], args := [d1, d2, d3] }
  | _ => none }
def SumKeysWrongFalsely : Prop := sumKeysRow.holds Tryd.pinned (OpenSpec.ofChange sumKeysWrong)

/-- 'wharfingerlaw05.FeedPieces': WHATEVER THE INPUT: true; the input reads as it did. -/
def feedPiecesSpec : ChangeSpec := { name := "feedPieces", fn := fun _ => fun
  | [d] => { results := [.lit (.bool true)], args := [d] }
  | _ => none }
def feedPiecesRow : OpenClaim := { program := "ytofflmhfffphdaadoor", sum := "d832e948bd35fe901ec4c14c9bf84389704d59a4cd85da8804dbffb28dadf929", func := "wharfinger/wharfingerlaw05.FeedPieces", spec := "feedPieces", inPlace := ["internal/reflectlite.TypeOf", "internal/reflectlite.ValueOf", "(internal/reflectlite.Value).Type", "(internal/reflectlite.Value).IsNil", "(internal/reflectlite.Value).Elem", "(internal/reflectlite.Value).Set"], unfollowed := true, recurses := true, named := ["errors.errorType"], apart := false, laid := [("errors.errorType", laid_errors_errorType)] }
def FeedPiecesSaid : Prop := feedPiecesRow.holds Tryd.pinned (OpenSpec.ofChange feedPiecesSpec)

/-- ITS FALSE NEIGHBOUR: 'it returns false'. Refute it at one input. -/
def feedPiecesWrong : ChangeSpec := { name := "feedPieces", fn := fun _ => fun
  | [d] => { results := [.lit (.bool false)], args := [d] }
  | _ => none }
def FeedPiecesWrongFalsely : Prop := feedPiecesRow.holds Tryd.pinned (OpenSpec.ofChange feedPiecesWrong)

/-- 'wharfingerlaw05.FeedSame': WHATEVER THE INPUT: true; the input reads as it did. -/
def feedSameSpec : ChangeSpec := { name := "feedSame", fn := fun _ => fun
  | [d1, d2] => { results := [.lit (.bool true)], args := [d1, d2] }
  | _ => none }
def feedSameRow : OpenClaim := { program := "ytofflmhfffphdaadoor", sum := "d832e948bd35fe901ec4c14c9bf84389704d59a4cd85da8804dbffb28dadf929", func := "wharfinger/wharfingerlaw05.FeedSame", spec := "feedSame", inPlace := ["internal/reflectlite.TypeOf", "internal/reflectlite.ValueOf", "(internal/reflectlite.Value).Type", "(internal/reflectlite.Value).IsNil", "(internal/reflectlite.Value).Elem", "(internal/reflectlite.Value).Set"], unfollowed := true, recurses := true, named := ["errors.errorType"], apart := false, laid := [("errors.errorType", laid_errors_errorType)] }
def FeedSameSaid : Prop := feedSameRow.holds Tryd.pinned (OpenSpec.ofChange feedSameSpec)

/-- ITS FALSE NEIGHBOUR: 'it returns false'. Refute it at one input. -/
def feedSameWrong : ChangeSpec := { name := "feedSame", fn := fun _ => fun
  | [d1, d2] => { results := [.lit (.bool false)], args := [d1, d2] }
  | _ => none }
def FeedSameWrongFalsely : Prop := feedSameRow.holds Tryd.pinned (OpenSpec.ofChange feedSameWrong)

/-- 'wharfingerlaw05.FeedHolds': WHATEVER THE INPUT: true; the input reads as it did. -/
def feedHoldsSpec : ChangeSpec := { name := "feedHolds", fn := fun _ => fun
  | [d1, d2] => { results := [.lit (.bool true)], args := [d1, d2] }
  | _ => none }
def feedHoldsRow : OpenClaim := { program := "ytofflmhfffphdaadoor", sum := "d832e948bd35fe901ec4c14c9bf84389704d59a4cd85da8804dbffb28dadf929", func := "wharfinger/wharfingerlaw05.FeedHolds", spec := "feedHolds", inPlace := ["internal/reflectlite.TypeOf", "internal/reflectlite.ValueOf", "(internal/reflectlite.Value).Type", "(internal/reflectlite.Value).IsNil", "(internal/reflectlite.Value).Elem", "(internal/reflectlite.Value).Set", "slices.overlaps[byte]"], unfollowed := true, recurses := true, named := ["errors.errorType"], apart := false, laid := [("errors.errorType", laid_errors_errorType)] }
def FeedHoldsSaid : Prop := feedHoldsRow.holds Tryd.pinned (OpenSpec.ofChange feedHoldsSpec)

/-- ITS FALSE NEIGHBOUR: 'it returns false'. Refute it at one input. -/
def feedHoldsWrong : ChangeSpec := { name := "feedHolds", fn := fun _ => fun
  | [d1, d2] => { results := [.lit (.bool false)], args := [d1, d2] }
  | _ => none }
def FeedHoldsWrongFalsely : Prop := feedHoldsRow.holds Tryd.pinned (OpenSpec.ofChange feedHoldsWrong)

/-- 'wharfingerlaw05.FeedEnds': WHATEVER THE INPUT: true; the input reads as it did. -/
def feedEndsSpec : ChangeSpec := { name := "feedEnds", fn := fun _ => fun
  | [d] => { results := [.lit (.bool true)], args := [d] }
  | _ => none }
def feedEndsRow : OpenClaim := { program := "ytofflmhfffphdaadoor", sum := "d832e948bd35fe901ec4c14c9bf84389704d59a4cd85da8804dbffb28dadf929", func := "wharfinger/wharfingerlaw05.FeedEnds", spec := "feedEnds", inPlace := ["internal/reflectlite.TypeOf", "internal/reflectlite.ValueOf", "(internal/reflectlite.Value).Type", "(internal/reflectlite.Value).IsNil", "(internal/reflectlite.Value).Elem", "(internal/reflectlite.Value).Set"], unfollowed := true, recurses := true, named := ["errors.errorType"], apart := false, laid := [("errors.errorType", laid_errors_errorType)] }
def FeedEndsSaid : Prop := feedEndsRow.holds Tryd.pinned (OpenSpec.ofChange feedEndsSpec)

/-- ITS FALSE NEIGHBOUR: 'it returns false'. Refute it at one input. -/
def feedEndsWrong : ChangeSpec := { name := "feedEnds", fn := fun _ => fun
  | [d] => { results := [.lit (.bool false)], args := [d] }
  | _ => none }
def FeedEndsWrongFalsely : Prop := feedEndsRow.holds Tryd.pinned (OpenSpec.ofChange feedEndsWrong)

/-- 'wharfingerlaw05.FeedWrong': WHATEVER THE INPUT: true; the input reads as it did. -/
def feedWrongSpec : ChangeSpec := { name := "feedWrong", fn := fun _ => fun
  | [d1, d2, d3] => { results := [.lit (.bool true)], args := [d1, d2, d3] }
  | _ => none }
def feedWrongRow : OpenClaim := { program := "ytofflmhfffphdaadoor", sum := "d832e948bd35fe901ec4c14c9bf84389704d59a4cd85da8804dbffb28dadf929", func := "wharfinger/wharfingerlaw05.FeedWrong", spec := "feedWrong", inPlace := ["internal/reflectlite.TypeOf", "internal/reflectlite.ValueOf", "(internal/reflectlite.Value).Type", "(internal/reflectlite.Value).IsNil", "(internal/reflectlite.Value).Elem", "(internal/reflectlite.Value).Set", "slices.overlaps[byte]"], unfollowed := true, recurses := true, named := ["errors.errorType"], apart := false, laid := [("errors.errorType", laid_errors_errorType)] }
def FeedWrongSaid : Prop := feedWrongRow.holds Tryd.pinned (OpenSpec.ofChange feedWrongSpec)

/-- ITS FALSE NEIGHBOUR: 'it returns false'. Refute it at one input. -/
def feedWrongWrong : ChangeSpec := { name := "feedWrong", fn := fun _ => fun
  | [d1, d2, d3] => { results := [.lit (.bool false)], args := [d1, d2, d3] }
  | _ => none }
def FeedWrongWrongFalsely : Prop := feedWrongRow.holds Tryd.pinned (OpenSpec.ofChange feedWrongWrong)

/-- 'wharfingerlaw05.FeedOwn': WHATEVER THE INPUT: true; the input reads as it did. -/
def feedOwnSpec : ChangeSpec := { name := "feedOwn", fn := fun _ => fun
  | [d1, d2] => { results := [.lit (.bool true)], args := [d1, d2] }
  | _ => none }
def feedOwnRow : OpenClaim := { program := "ytofflmhfffphdaadoor", sum := "d832e948bd35fe901ec4c14c9bf84389704d59a4cd85da8804dbffb28dadf929", func := "wharfinger/wharfingerlaw05.FeedOwn", spec := "feedOwn", inPlace := ["internal/reflectlite.TypeOf", "internal/reflectlite.ValueOf", "(internal/reflectlite.Value).Type", "(internal/reflectlite.Value).IsNil", "(internal/reflectlite.Value).Elem", "(internal/reflectlite.Value).Set", "slices.overlaps[byte]"], unfollowed := true, recurses := true, named := ["errors.errorType"], apart := false, laid := [("errors.errorType", laid_errors_errorType)] }
def FeedOwnSaid : Prop := feedOwnRow.holds Tryd.pinned (OpenSpec.ofChange feedOwnSpec)

/-- ITS FALSE NEIGHBOUR: 'it returns false'. Refute it at one input. -/
def feedOwnWrong : ChangeSpec := { name := "feedOwn", fn := fun _ => fun
  | [d1, d2] => { results := [.lit (.bool false)], args := [d1, d2] }
  | _ => none }
def FeedOwnWrongFalsely : Prop := feedOwnRow.holds Tryd.pinned (OpenSpec.ofChange feedOwnWrong)

/- THE SECOND FORM. 'bulk': how many values and letters a reading holds, each counted each time it is reached (what is shared counts as often as it is met; a slice's spare places count too). A statement '..UptoSaid' is the law's where the arguments, and the package variables that the reading takes, are together of bulk at most 1048576: NARROWER than '..Said'. Prove '..Said' where nothing that the law and all that it calls make is longer than what came in: it says more and counts as full. Else prove '..UptoSaid'. A law counts once. -/
mutual
def uptoBulk {H : Type} : DataW H → Nat
  | .lit (.string bytes) => bytes.length + 1
  | .lit _ => 1
  | .nil => 1
  | .ptr d => uptoBulk d + 1
  | .slice elems spare => uptoBulkAll elems + uptoBulkAll spare + 1
  | .agg parts => uptoBulkAll parts + 1
  | .iface _ d => uptoBulk d + 1
  | .map entries => uptoBulkEntries entries + 1
  | .held _ => 1
def uptoBulkAll {H : Type} : List (DataW H) → Nat
  | [] => 0
  | d :: r => uptoBulk d + uptoBulkAll r
def uptoBulkEntries {H : Type} : List (Lit × DataW H) → Nat
  | [] => 0
  | x :: r => uptoBulkEntry x + uptoBulkEntries r
def uptoBulkEntry {H : Type} : Lit × DataW H → Nat
  | (.string bytes, d) => bytes.length + uptoBulk d + 1
  | (_, d) => uptoBulk d + 1
 end
def uptoSmall : (H : Type) → List (DataW H) → Bool := fun _ ds => decide (uptoBulkAll ds ≤ 1048576)
def OpenSpec.upto (s : _root_.Go.ChangeSpec) : _root_.Go.OpenSpec := { _root_.Go.OpenSpec.ofChange s with cond := some uptoSmall }

/-- 'wharfingerlaw01.SumOf', WHERE WHAT IT READS IS OF BULK AT MOST 1048576: true; the input reads as it did. -/
def sumOfUptoRow : OpenClaim := { program := "ytofflmhfffphdaadoor", sum := "d832e948bd35fe901ec4c14c9bf84389704d59a4cd85da8804dbffb28dadf929", func := "wharfinger/wharfingerlaw01.SumOf", spec := "sumOf", named := ["wharfinger/sum.firstState", "wharfinger/sum.roundWords"], apart := false, laid := [("wharfinger/sum.firstState", laid_wharfinger_sum_firstState), ("wharfinger/sum.roundWords", laid_wharfinger_sum_roundWords)], narrowed := true }
def SumOfUptoSaid : Prop := sumOfUptoRow.holds Tryd.pinned (OpenSpec.upto sumOfSpec)

/-- 'wharfingerlaw01.SumCut', WHERE WHAT IT READS IS OF BULK AT MOST 1048576: true; the input reads as it did. -/
def sumCutUptoRow : OpenClaim := { program := "ytofflmhfffphdaadoor", sum := "d832e948bd35fe901ec4c14c9bf84389704d59a4cd85da8804dbffb28dadf929", func := "wharfinger/wharfingerlaw01.SumCut", spec := "sumCut", named := ["wharfinger/sum.firstState", "wharfinger/sum.roundWords"], apart := false, laid := [("wharfinger/sum.firstState", laid_wharfinger_sum_firstState), ("wharfinger/sum.roundWords", laid_wharfinger_sum_roundWords)], narrowed := true }
def SumCutUptoSaid : Prop := sumCutUptoRow.holds Tryd.pinned (OpenSpec.upto sumCutSpec)

/-- 'wharfingerlaw01.SumMac', WHERE WHAT IT READS IS OF BULK AT MOST 1048576: true; the input reads as it did. -/
def sumMacUptoRow : OpenClaim := { program := "ytofflmhfffphdaadoor", sum := "d832e948bd35fe901ec4c14c9bf84389704d59a4cd85da8804dbffb28dadf929", func := "wharfinger/wharfingerlaw01.SumMac", spec := "sumMac", named := ["wharfinger/sum.firstState", "wharfinger/sum.roundWords"], apart := false, laid := [("wharfinger/sum.firstState", laid_wharfinger_sum_firstState), ("wharfinger/sum.roundWords", laid_wharfinger_sum_roundWords)], narrowed := true }
def SumMacUptoSaid : Prop := sumMacUptoRow.holds Tryd.pinned (OpenSpec.upto sumMacSpec)

/-- 'wharfingerlaw01.SumEnds', WHERE WHAT IT READS IS OF BULK AT MOST 1048576: true; the input reads as it did. -/
def sumEndsUptoRow : OpenClaim := { program := "ytofflmhfffphdaadoor", sum := "d832e948bd35fe901ec4c14c9bf84389704d59a4cd85da8804dbffb28dadf929", func := "wharfinger/wharfingerlaw01.SumEnds", spec := "sumEnds", named := ["wharfinger/sum.firstState", "wharfinger/sum.roundWords"], apart := false, laid := [("wharfinger/sum.firstState", laid_wharfinger_sum_firstState), ("wharfinger/sum.roundWords", laid_wharfinger_sum_roundWords)], narrowed := true }
def SumEndsUptoSaid : Prop := sumEndsUptoRow.holds Tryd.pinned (OpenSpec.upto sumEndsSpec)

/-- 'wharfingerlaw01.SumKeys', WHERE WHAT IT READS IS OF BULK AT MOST 1048576: true; the input reads as it did. -/
def sumKeysUptoRow : OpenClaim := { program := "ytofflmhfffphdaadoor", sum := "d832e948bd35fe901ec4c14c9bf84389704d59a4cd85da8804dbffb28dadf929", func := "wharfinger/wharfingerlaw01.SumKeys", spec := "sumKeys", named := ["wharfinger/sum.firstState", "wharfinger/sum.roundWords"], apart := false, laid := [("wharfinger/sum.firstState", laid_wharfinger_sum_firstState), ("wharfinger/sum.roundWords", laid_wharfinger_sum_roundWords)], narrowed := true }
def SumKeysUptoSaid : Prop := sumKeysUptoRow.holds Tryd.pinned (OpenSpec.upto sumKeysSpec)

/-- 'wharfingerlaw05.FeedPieces', WHERE WHAT IT READS IS OF BULK AT MOST 1048576: true; the input reads as it did. -/
def feedPiecesUptoRow : OpenClaim := { program := "ytofflmhfffphdaadoor", sum := "d832e948bd35fe901ec4c14c9bf84389704d59a4cd85da8804dbffb28dadf929", func := "wharfinger/wharfingerlaw05.FeedPieces", spec := "feedPieces", inPlace := ["internal/reflectlite.TypeOf", "internal/reflectlite.ValueOf", "(internal/reflectlite.Value).Type", "(internal/reflectlite.Value).IsNil", "(internal/reflectlite.Value).Elem", "(internal/reflectlite.Value).Set"], unfollowed := true, recurses := true, named := ["errors.errorType"], apart := false, laid := [("errors.errorType", laid_errors_errorType)], narrowed := true }
def FeedPiecesUptoSaid : Prop := feedPiecesUptoRow.holds Tryd.pinned (OpenSpec.upto feedPiecesSpec)

/-- 'wharfingerlaw05.FeedSame', WHERE WHAT IT READS IS OF BULK AT MOST 1048576: true; the input reads as it did. -/
def feedSameUptoRow : OpenClaim := { program := "ytofflmhfffphdaadoor", sum := "d832e948bd35fe901ec4c14c9bf84389704d59a4cd85da8804dbffb28dadf929", func := "wharfinger/wharfingerlaw05.FeedSame", spec := "feedSame", inPlace := ["internal/reflectlite.TypeOf", "internal/reflectlite.ValueOf", "(internal/reflectlite.Value).Type", "(internal/reflectlite.Value).IsNil", "(internal/reflectlite.Value).Elem", "(internal/reflectlite.Value).Set"], unfollowed := true, recurses := true, named := ["errors.errorType"], apart := false, laid := [("errors.errorType", laid_errors_errorType)], narrowed := true }
def FeedSameUptoSaid : Prop := feedSameUptoRow.holds Tryd.pinned (OpenSpec.upto feedSameSpec)

/-- 'wharfingerlaw05.FeedHolds', WHERE WHAT IT READS IS OF BULK AT MOST 1048576: true; the input reads as it did. -/
def feedHoldsUptoRow : OpenClaim := { program := "ytofflmhfffphdaadoor", sum := "d832e948bd35fe901ec4c14c9bf84389704d59a4cd85da8804dbffb28dadf929", func := "wharfinger/wharfingerlaw05.FeedHolds", spec := "feedHolds", inPlace := ["internal/reflectlite.TypeOf", "internal/reflectlite.ValueOf", "(internal/reflectlite.Value).Type", "(internal/reflectlite.Value).IsNil", "(internal/reflectlite.Value).Elem", "(internal/reflectlite.Value).Set", "slices.overlaps[byte]"], unfollowed := true, recurses := true, named := ["errors.errorType"], apart := false, laid := [("errors.errorType", laid_errors_errorType)], narrowed := true }
def FeedHoldsUptoSaid : Prop := feedHoldsUptoRow.holds Tryd.pinned (OpenSpec.upto feedHoldsSpec)

/-- 'wharfingerlaw05.FeedEnds', WHERE WHAT IT READS IS OF BULK AT MOST 1048576: true; the input reads as it did. -/
def feedEndsUptoRow : OpenClaim := { program := "ytofflmhfffphdaadoor", sum := "d832e948bd35fe901ec4c14c9bf84389704d59a4cd85da8804dbffb28dadf929", func := "wharfinger/wharfingerlaw05.FeedEnds", spec := "feedEnds", inPlace := ["internal/reflectlite.TypeOf", "internal/reflectlite.ValueOf", "(internal/reflectlite.Value).Type", "(internal/reflectlite.Value).IsNil", "(internal/reflectlite.Value).Elem", "(internal/reflectlite.Value).Set"], unfollowed := true, recurses := true, named := ["errors.errorType"], apart := false, laid := [("errors.errorType", laid_errors_errorType)], narrowed := true }
def FeedEndsUptoSaid : Prop := feedEndsUptoRow.holds Tryd.pinned (OpenSpec.upto feedEndsSpec)

/-- 'wharfingerlaw05.FeedWrong', WHERE WHAT IT READS IS OF BULK AT MOST 1048576: true; the input reads as it did. -/
def feedWrongUptoRow : OpenClaim := { program := "ytofflmhfffphdaadoor", sum := "d832e948bd35fe901ec4c14c9bf84389704d59a4cd85da8804dbffb28dadf929", func := "wharfinger/wharfingerlaw05.FeedWrong", spec := "feedWrong", inPlace := ["internal/reflectlite.TypeOf", "internal/reflectlite.ValueOf", "(internal/reflectlite.Value).Type", "(internal/reflectlite.Value).IsNil", "(internal/reflectlite.Value).Elem", "(internal/reflectlite.Value).Set", "slices.overlaps[byte]"], unfollowed := true, recurses := true, named := ["errors.errorType"], apart := false, laid := [("errors.errorType", laid_errors_errorType)], narrowed := true }
def FeedWrongUptoSaid : Prop := feedWrongUptoRow.holds Tryd.pinned (OpenSpec.upto feedWrongSpec)

/-- 'wharfingerlaw05.FeedOwn', WHERE WHAT IT READS IS OF BULK AT MOST 1048576: true; the input reads as it did. -/
def feedOwnUptoRow : OpenClaim := { program := "ytofflmhfffphdaadoor", sum := "d832e948bd35fe901ec4c14c9bf84389704d59a4cd85da8804dbffb28dadf929", func := "wharfinger/wharfingerlaw05.FeedOwn", spec := "feedOwn", inPlace := ["internal/reflectlite.TypeOf", "internal/reflectlite.ValueOf", "(internal/reflectlite.Value).Type", "(internal/reflectlite.Value).IsNil", "(internal/reflectlite.Value).Elem", "(internal/reflectlite.Value).Set", "slices.overlaps[byte]"], unfollowed := true, recurses := true, named := ["errors.errorType"], apart := false, laid := [("errors.errorType", laid_errors_errorType)], narrowed := true }
def FeedOwnUptoSaid : Prop := feedOwnUptoRow.holds Tryd.pinned (OpenSpec.upto feedOwnSpec)

end Rows
end Go.Proofs.YtofflmhfffphdaaDoor
