/-
  NARROWER THAN 'FOR EVERY INPUT', by the rows' own cells (each row's printed sentence says how): FeedSame: laid · DeltaMakes: laid · DeltaRaw: laid · DeltaBytes: laid · DeltaReads: laid · DeltaJoined: laid · DeltaWhole: laid · DeltaOwn: laid · DeltaFinds: laid · WordKinds: laid.
  DERIVED. THE GIVEN ROWS OF THIS SEAT. 10 by the template 'for every input the law returns true; each argument reads behind the call as it read before'; 0 by the template 'total and deterministic' (their statements: YtkinpbhbgeiflaaDoorTotals.lean).
  GIVEN WITH THE SEED: the statements are not yours to turn. If you find one false, say at which input.
  Laid BY PROGRAM, IN A SANDBOX (cutbox-rows.mjs): the forced cells as the released guide's own fill.sh prints them over the translation de8f00511553c932… (all of the seat's roots in one cut). By AI agents, Wed Nov 11 2026. No macro, syntax, notation, axiom, sorry.
-/
import Derived.Test.YtkinpbhbgeiflaaDoorChecked
import GoSem.Claim
import GoSem.ClaimJoined
import GoSem.ClaimMapViews
import Derived.JoinedTies
import Derived.KernelRfl
namespace Go.Proofs.YtkinpbhbgeiflaaDoor
/- THE CELL 'sum', in the pinned program and in every row, IS THE sha256 OF THE DUMP (.gsa) THAT YtkinpbhbgeiflaaDoorProg.lean LOADS. Nothing in Lean hashes anything: it is a label: what it is worth is what the hold of that sum in a sandbox is worth. -/
noncomputable def Tryd.pinned : Pinned := { name := "ytkinpbhbgeiflaadoor", sum := "de8f00511553c932fa0b8a414d83692db6d06a3cf68a25adf5a3c2dac6e376d5", checked := Tryd.checked }
namespace Rows
def none {H : Type} : Left H := { results := [], args := [] }

/- WHAT THE LISTED PACKAGE-LEVEL VARIABLES READ AS WHEN THE CALL BEGINS. Each datum BY PROGRAM (the guide's laid-datum.mjs) off the statement by which the dump's own 'gosem.cut.vars' lays the variable. In a bare row this is a premise. The card (YtkinpbhbgeiflaaDoorCards.lean) ties it to the program's text. -/
def laid_errors_errorType {H : Type} : DataW H := .iface "internal/reflectlite.rtype" (.agg [.ptr (.lit (.string [101, 114, 114, 111, 114]))])
def laid_wharfinger_sum_firstState {H : Type} : DataW H := .agg [.lit (.int .u32 1779033703), .lit (.int .u32 3144134277), .lit (.int .u32 1013904242), .lit (.int .u32 2773480762), .lit (.int .u32 1359893119), .lit (.int .u32 2600822924), .lit (.int .u32 528734635), .lit (.int .u32 1541459225)]
def laid_wharfinger_sum_roundWords {H : Type} : DataW H := .agg [.lit (.int .u32 1116352408), .lit (.int .u32 1899447441), .lit (.int .u32 3049323471), .lit (.int .u32 3921009573), .lit (.int .u32 961987163), .lit (.int .u32 1508970993), .lit (.int .u32 2453635748), .lit (.int .u32 2870763221), .lit (.int .u32 3624381080), .lit (.int .u32 310598401), .lit (.int .u32 607225278), .lit (.int .u32 1426881987), .lit (.int .u32 1925078388), .lit (.int .u32 2162078206), .lit (.int .u32 2614888103), .lit (.int .u32 3248222580), .lit (.int .u32 3835390401), .lit (.int .u32 4022224774), .lit (.int .u32 264347078), .lit (.int .u32 604807628), .lit (.int .u32 770255983), .lit (.int .u32 1249150122), .lit (.int .u32 1555081692), .lit (.int .u32 1996064986), .lit (.int .u32 2554220882), .lit (.int .u32 2821834349), .lit (.int .u32 2952996808), .lit (.int .u32 3210313671), .lit (.int .u32 3336571891), .lit (.int .u32 3584528711), .lit (.int .u32 113926993), .lit (.int .u32 338241895), .lit (.int .u32 666307205), .lit (.int .u32 773529912), .lit (.int .u32 1294757372), .lit (.int .u32 1396182291), .lit (.int .u32 1695183700), .lit (.int .u32 1986661051), .lit (.int .u32 2177026350), .lit (.int .u32 2456956037), .lit (.int .u32 2730485921), .lit (.int .u32 2820302411), .lit (.int .u32 3259730800), .lit (.int .u32 3345764771), .lit (.int .u32 3516065817), .lit (.int .u32 3600352804), .lit (.int .u32 4094571909), .lit (.int .u32 275423344), .lit (.int .u32 430227734), .lit (.int .u32 506948616), .lit (.int .u32 659060556), .lit (.int .u32 883997877), .lit (.int .u32 958139571), .lit (.int .u32 1322822218), .lit (.int .u32 1537002063), .lit (.int .u32 1747873779), .lit (.int .u32 1955562222), .lit (.int .u32 2024104815), .lit (.int .u32 2227730452), .lit (.int .u32 2361852424), .lit (.int .u32 2428436474), .lit (.int .u32 2756734187), .lit (.int .u32 3204031479), .lit (.int .u32 3329325298)]

/-- 'wharfingerlaw05.FeedSame': WHATEVER THE INPUT: true; the input reads as it did. -/
def feedSameSpec : ChangeSpec := { name := "feedSame", fn := fun _ => fun
  | [d1, d2] => { results := [.lit (.bool true)], args := [d1, d2] }
  | _ => none }
def feedSameRow : OpenClaim := { program := "ytkinpbhbgeiflaadoor", sum := "de8f00511553c932fa0b8a414d83692db6d06a3cf68a25adf5a3c2dac6e376d5", func := "wharfinger/wharfingerlaw05.FeedSame", spec := "feedSame", inPlace := ["internal/reflectlite.TypeOf", "internal/reflectlite.ValueOf", "(internal/reflectlite.Value).Type", "(internal/reflectlite.Value).IsNil", "(internal/reflectlite.Value).Elem", "(internal/reflectlite.Value).Set"], unfollowed := true, recurses := true, named := ["errors.errorType"], apart := false, laid := [("errors.errorType", laid_errors_errorType)] }
def FeedSameSaid : Prop := feedSameRow.holds Tryd.pinned (OpenSpec.ofChange feedSameSpec)

/-- ITS FALSE NEIGHBOUR: 'it returns false'. Refute it at one input. -/
def feedSameWrong : ChangeSpec := { name := "feedSame", fn := fun _ => fun
  | [d1, d2] => { results := [.lit (.bool false)], args := [d1, d2] }
  | _ => none }
def FeedSameWrongFalsely : Prop := feedSameRow.holds Tryd.pinned (OpenSpec.ofChange feedSameWrong)

/-- 'wharfingerlaw07.DeltaMakes': WHATEVER THE INPUT: true; the input reads as it did. -/
def deltaMakesSpec : ChangeSpec := { name := "deltaMakes", fn := fun _ => fun
  | [d1, d2, d3] => { results := [.lit (.bool true)], args := [d1, d2, d3] }
  | _ => none }
def deltaMakesRow : OpenClaim := { program := "ytkinpbhbgeiflaadoor", sum := "de8f00511553c932fa0b8a414d83692db6d06a3cf68a25adf5a3c2dac6e376d5", func := "wharfinger/wharfingerlaw07.DeltaMakes", spec := "deltaMakes", named := ["wharfinger/sum.firstState", "wharfinger/sum.roundWords"], apart := false, laid := [("wharfinger/sum.firstState", laid_wharfinger_sum_firstState), ("wharfinger/sum.roundWords", laid_wharfinger_sum_roundWords)] }
def DeltaMakesSaid : Prop := deltaMakesRow.holds Tryd.pinned (OpenSpec.ofChange deltaMakesSpec)

/-- ITS FALSE NEIGHBOUR: 'it returns false'. Refute it at one input. -/
def deltaMakesWrong : ChangeSpec := { name := "deltaMakes", fn := fun _ => fun
  | [d1, d2, d3] => { results := [.lit (.bool false)], args := [d1, d2, d3] }
  | _ => none }
def DeltaMakesWrongFalsely : Prop := deltaMakesRow.holds Tryd.pinned (OpenSpec.ofChange deltaMakesWrong)

/-- 'wharfingerlaw07.DeltaRaw': WHATEVER THE INPUT: true; the input reads as it did. -/
def deltaRawSpec : ChangeSpec := { name := "deltaRaw", fn := fun _ => fun
  | [d1, d2] => { results := [.lit (.bool true)], args := [d1, d2] }
  | _ => none }
def deltaRawRow : OpenClaim := { program := "ytkinpbhbgeiflaadoor", sum := "de8f00511553c932fa0b8a414d83692db6d06a3cf68a25adf5a3c2dac6e376d5", func := "wharfinger/wharfingerlaw07.DeltaRaw", spec := "deltaRaw", named := ["wharfinger/sum.firstState", "wharfinger/sum.roundWords"], apart := false, laid := [("wharfinger/sum.firstState", laid_wharfinger_sum_firstState), ("wharfinger/sum.roundWords", laid_wharfinger_sum_roundWords)] }
def DeltaRawSaid : Prop := deltaRawRow.holds Tryd.pinned (OpenSpec.ofChange deltaRawSpec)

/-- ITS FALSE NEIGHBOUR: 'it returns false'. Refute it at one input. -/
def deltaRawWrong : ChangeSpec := { name := "deltaRaw", fn := fun _ => fun
  | [d1, d2] => { results := [.lit (.bool false)], args := [d1, d2] }
  | _ => none }
def DeltaRawWrongFalsely : Prop := deltaRawRow.holds Tryd.pinned (OpenSpec.ofChange deltaRawWrong)

/-- 'wharfingerlaw07.DeltaBytes': WHATEVER THE INPUT: true; the input reads as it did. -/
def deltaBytesSpec : ChangeSpec := { name := "deltaBytes", fn := fun _ => fun
  | [d] => { results := [.lit (.bool true)], args := [d] }
  | _ => none }
def deltaBytesRow : OpenClaim := { program := "ytkinpbhbgeiflaadoor", sum := "de8f00511553c932fa0b8a414d83692db6d06a3cf68a25adf5a3c2dac6e376d5", func := "wharfinger/wharfingerlaw07.DeltaBytes", spec := "deltaBytes", named := ["wharfinger/sum.firstState", "wharfinger/sum.roundWords"], apart := false, laid := [("wharfinger/sum.firstState", laid_wharfinger_sum_firstState), ("wharfinger/sum.roundWords", laid_wharfinger_sum_roundWords)] }
def DeltaBytesSaid : Prop := deltaBytesRow.holds Tryd.pinned (OpenSpec.ofChange deltaBytesSpec)

/-- ITS FALSE NEIGHBOUR: 'it returns false'. Refute it at one input. -/
def deltaBytesWrong : ChangeSpec := { name := "deltaBytes", fn := fun _ => fun
  | [d] => { results := [.lit (.bool false)], args := [d] }
  | _ => none }
def DeltaBytesWrongFalsely : Prop := deltaBytesRow.holds Tryd.pinned (OpenSpec.ofChange deltaBytesWrong)

/-- 'wharfingerlaw07.DeltaReads': WHATEVER THE INPUT: true; the input reads as it did. -/
def deltaReadsSpec : ChangeSpec := { name := "deltaReads", fn := fun _ => fun
  | [d] => { results := [.lit (.bool true)], args := [d] }
  | _ => none }
def deltaReadsRow : OpenClaim := { program := "ytkinpbhbgeiflaadoor", sum := "de8f00511553c932fa0b8a414d83692db6d06a3cf68a25adf5a3c2dac6e376d5", func := "wharfinger/wharfingerlaw07.DeltaReads", spec := "deltaReads", inPlace := ["internal/reflectlite.ValueOf", "(internal/reflectlite.Value).Type", "(internal/reflectlite.Value).IsNil", "internal/reflectlite.TypeOf", "(internal/reflectlite.Value).Elem", "(internal/reflectlite.Value).Set"], unfollowed := true, recurses := true, named := ["wharfinger/sum.firstState", "wharfinger/sum.roundWords", "errors.errorType"], apart := false, laid := [("errors.errorType", laid_errors_errorType), ("wharfinger/sum.firstState", laid_wharfinger_sum_firstState), ("wharfinger/sum.roundWords", laid_wharfinger_sum_roundWords)] }
def DeltaReadsSaid : Prop := deltaReadsRow.holds Tryd.pinned (OpenSpec.ofChange deltaReadsSpec)

/-- ITS FALSE NEIGHBOUR: 'it returns false'. Refute it at one input. -/
def deltaReadsWrong : ChangeSpec := { name := "deltaReads", fn := fun _ => fun
  | [d] => { results := [.lit (.bool false)], args := [d] }
  | _ => none }
def DeltaReadsWrongFalsely : Prop := deltaReadsRow.holds Tryd.pinned (OpenSpec.ofChange deltaReadsWrong)

/-- 'wharfingerlaw07.DeltaJoined': WHATEVER THE INPUT: true; the input reads as it did. -/
def deltaJoinedSpec : ChangeSpec := { name := "deltaJoined", fn := fun _ => fun
  | [d1, d2, d3] => { results := [.lit (.bool true)], args := [d1, d2, d3] }
  | _ => none }
def deltaJoinedRow : OpenClaim := { program := "ytkinpbhbgeiflaadoor", sum := "de8f00511553c932fa0b8a414d83692db6d06a3cf68a25adf5a3c2dac6e376d5", func := "wharfinger/wharfingerlaw07.DeltaJoined", spec := "deltaJoined", named := ["wharfinger/sum.firstState", "wharfinger/sum.roundWords"], apart := false, laid := [("wharfinger/sum.firstState", laid_wharfinger_sum_firstState), ("wharfinger/sum.roundWords", laid_wharfinger_sum_roundWords)] }
def DeltaJoinedSaid : Prop := deltaJoinedRow.holds Tryd.pinned (OpenSpec.ofChange deltaJoinedSpec)

/-- ITS FALSE NEIGHBOUR: 'it returns false'. Refute it at one input. -/
def deltaJoinedWrong : ChangeSpec := { name := "deltaJoined", fn := fun _ => fun
  | [d1, d2, d3] => { results := [.lit (.bool false)], args := [d1, d2, d3] }
  | _ => none }
def DeltaJoinedWrongFalsely : Prop := deltaJoinedRow.holds Tryd.pinned (OpenSpec.ofChange deltaJoinedWrong)

/-- 'wharfingerlaw07.DeltaWhole': WHATEVER THE INPUT: true; the input reads as it did. -/
def deltaWholeSpec : ChangeSpec := { name := "deltaWhole", fn := fun _ => fun
  | [d] => { results := [.lit (.bool true)], args := [d] }
  | _ => none }
def deltaWholeRow : OpenClaim := { program := "ytkinpbhbgeiflaadoor", sum := "de8f00511553c932fa0b8a414d83692db6d06a3cf68a25adf5a3c2dac6e376d5", func := "wharfinger/wharfingerlaw07.DeltaWhole", spec := "deltaWhole", named := ["wharfinger/sum.firstState", "wharfinger/sum.roundWords"], apart := false, laid := [("wharfinger/sum.firstState", laid_wharfinger_sum_firstState), ("wharfinger/sum.roundWords", laid_wharfinger_sum_roundWords)] }
def DeltaWholeSaid : Prop := deltaWholeRow.holds Tryd.pinned (OpenSpec.ofChange deltaWholeSpec)

/-- ITS FALSE NEIGHBOUR: 'it returns false'. Refute it at one input. -/
def deltaWholeWrong : ChangeSpec := { name := "deltaWhole", fn := fun _ => fun
  | [d] => { results := [.lit (.bool false)], args := [d] }
  | _ => none }
def DeltaWholeWrongFalsely : Prop := deltaWholeRow.holds Tryd.pinned (OpenSpec.ofChange deltaWholeWrong)

/-- 'wharfingerlaw07.DeltaOwn': WHATEVER THE INPUT: true; the input reads as it did. -/
def deltaOwnSpec : ChangeSpec := { name := "deltaOwn", fn := fun _ => fun
  | [d] => { results := [.lit (.bool true)], args := [d] }
  | _ => none }
def deltaOwnRow : OpenClaim := { program := "ytkinpbhbgeiflaadoor", sum := "de8f00511553c932fa0b8a414d83692db6d06a3cf68a25adf5a3c2dac6e376d5", func := "wharfinger/wharfingerlaw07.DeltaOwn", spec := "deltaOwn", named := ["wharfinger/sum.firstState", "wharfinger/sum.roundWords"], apart := false, laid := [("wharfinger/sum.firstState", laid_wharfinger_sum_firstState), ("wharfinger/sum.roundWords", laid_wharfinger_sum_roundWords)] }
def DeltaOwnSaid : Prop := deltaOwnRow.holds Tryd.pinned (OpenSpec.ofChange deltaOwnSpec)

/-- ITS FALSE NEIGHBOUR: 'it returns false'. Refute it at one input. -/
def deltaOwnWrong : ChangeSpec := { name := "deltaOwn", fn := fun _ => fun
  | [d] => { results := [.lit (.bool false)], args := [d] }
  | _ => none }
def DeltaOwnWrongFalsely : Prop := deltaOwnRow.holds Tryd.pinned (OpenSpec.ofChange deltaOwnWrong)

/-- 'wharfingerlaw07.DeltaFinds': WHATEVER THE INPUT: true; the input reads as it did. -/
def deltaFindsSpec : ChangeSpec := { name := "deltaFinds", fn := fun _ => fun
  | [d1, d2, d3] => { results := [.lit (.bool true)], args := [d1, d2, d3] }
  | _ => none }
def deltaFindsRow : OpenClaim := { program := "ytkinpbhbgeiflaadoor", sum := "de8f00511553c932fa0b8a414d83692db6d06a3cf68a25adf5a3c2dac6e376d5", func := "wharfinger/wharfingerlaw07.DeltaFinds", spec := "deltaFinds", named := ["wharfinger/sum.firstState", "wharfinger/sum.roundWords"], apart := false, laid := [("wharfinger/sum.firstState", laid_wharfinger_sum_firstState), ("wharfinger/sum.roundWords", laid_wharfinger_sum_roundWords)] }
def DeltaFindsSaid : Prop := deltaFindsRow.holds Tryd.pinned (OpenSpec.ofChange deltaFindsSpec)

/-- ITS FALSE NEIGHBOUR: 'it returns false'. Refute it at one input. -/
def deltaFindsWrong : ChangeSpec := { name := "deltaFinds", fn := fun _ => fun
  | [d1, d2, d3] => { results := [.lit (.bool false)], args := [d1, d2, d3] }
  | _ => none }
def DeltaFindsWrongFalsely : Prop := deltaFindsRow.holds Tryd.pinned (OpenSpec.ofChange deltaFindsWrong)

/-- 'wharfingerlaw16.WordKinds': WHATEVER THE INPUT: true; the input reads as it did. -/
def wordKindsSpec : ChangeSpec := { name := "wordKinds", fn := fun _ => fun
  | [d] => { results := [.lit (.bool true)], args := [d] }
  | _ => none }
def wordKindsRow : OpenClaim := { program := "ytkinpbhbgeiflaadoor", sum := "de8f00511553c932fa0b8a414d83692db6d06a3cf68a25adf5a3c2dac6e376d5", func := "wharfinger/wharfingerlaw16.WordKinds", spec := "wordKinds", inPlace := ["slices.overlaps[byte]", "internal/reflectlite.ValueOf", "(internal/reflectlite.Value).Type", "(internal/reflectlite.Value).IsNil", "internal/reflectlite.TypeOf", "(internal/reflectlite.Value).Elem", "(internal/reflectlite.Value).Set"], unfollowed := true, recurses := true, named := ["errors.errorType"], apart := false, laid := [("errors.errorType", laid_errors_errorType)] }
def WordKindsSaid : Prop := wordKindsRow.holds Tryd.pinned (OpenSpec.ofChange wordKindsSpec)

/-- ITS FALSE NEIGHBOUR: 'it returns false'. Refute it at one input. -/
def wordKindsWrong : ChangeSpec := { name := "wordKinds", fn := fun _ => fun
  | [d] => { results := [.lit (.bool false)], args := [d] }
  | _ => none }
def WordKindsWrongFalsely : Prop := wordKindsRow.holds Tryd.pinned (OpenSpec.ofChange wordKindsWrong)

/- THE SECOND FORM. 'bulk': how many values and letters a reading holds, each counted each time it is reached (what is shared counts as often as it is met; a slice's spare places count too). A statement '..UptoSaid' is the law's where the arguments, and the package variables that the reading takes, are together of bulk at most 1048576: NARROWER than '..Said'. Prove '..Said' where nothing that the law and all that it calls make is longer than what came in: it says more and counts as full. Else prove '..UptoSaid'. A law counts once. -/
mutual
def uptoBulk {H : Type} : DataW H → Nat
  | .lit (.string bytes) => bytes.length + 1
  | .lit _ => 1
  | .nil => 1
  | .ptr d => uptoBulk d + 1
  | .slice elems spare => uptoBulkAll elems + uptoBulkAll spare + 1
  | .agg parts => uptoBulkAll parts + 1
  | .iface _ d => uptoBulk d + 1
  | .map entries => uptoBulkEntries entries + 1
  | .held _ => 1
def uptoBulkAll {H : Type} : List (DataW H) → Nat
  | [] => 0
  | d :: r => uptoBulk d + uptoBulkAll r
def uptoBulkEntries {H : Type} : List (Lit × DataW H) → Nat
  | [] => 0
  | x :: r => uptoBulkEntry x + uptoBulkEntries r
def uptoBulkEntry {H : Type} : Lit × DataW H → Nat
  | (.string bytes, d) => bytes.length + uptoBulk d + 1
  | (_, d) => uptoBulk d + 1
 end
def uptoSmall : (H : Type) → List (DataW H) → Bool := fun _ ds => decide (uptoBulkAll ds ≤ 1048576)
def OpenSpec.upto (s : _root_.Go.ChangeSpec) : _root_.Go.OpenSpec := { _root_.Go.OpenSpec.ofChange s with cond := some uptoSmall }

/-- 'wharfingerlaw05.FeedSame', WHERE WHAT IT READS IS OF BULK AT MOST 1048576: true; the input reads as it did. -/
def feedSameUptoRow : OpenClaim := { program := "ytkinpbhbgeiflaadoor", sum := "de8f00511553c932fa0b8a414d83692db6d06a3cf68a25adf5a3c2dac6e376d5", func := "wharfinger/wharfingerlaw05.FeedSame", spec := "feedSame", inPlace := ["internal/reflectlite.TypeOf", "internal/reflectlite.ValueOf", "(internal/reflectlite.Value).Type", "(internal/reflectlite.Value).IsNil", "(internal/reflectlite.Value).Elem", "(internal/reflectlite.Value).Set"], unfollowed := true, recurses := true, named := ["errors.errorType"], apart := false, laid := [("errors.errorType", laid_errors_errorType)], narrowed := true }
def FeedSameUptoSaid : Prop := feedSameUptoRow.holds Tryd.pinned (OpenSpec.upto feedSameSpec)

/-- 'wharfingerlaw07.DeltaMakes', WHERE WHAT IT READS IS OF BULK AT MOST 1048576: true; the input reads as it did. -/
def deltaMakesUptoRow : OpenClaim := { program := "ytkinpbhbgeiflaadoor", sum := "de8f00511553c932fa0b8a414d83692db6d06a3cf68a25adf5a3c2dac6e376d5", func := "wharfinger/wharfingerlaw07.DeltaMakes", spec := "deltaMakes", named := ["wharfinger/sum.firstState", "wharfinger/sum.roundWords"], apart := false, laid := [("wharfinger/sum.firstState", laid_wharfinger_sum_firstState), ("wharfinger/sum.roundWords", laid_wharfinger_sum_roundWords)], narrowed := true }
def DeltaMakesUptoSaid : Prop := deltaMakesUptoRow.holds Tryd.pinned (OpenSpec.upto deltaMakesSpec)

/-- 'wharfingerlaw07.DeltaRaw', WHERE WHAT IT READS IS OF BULK AT MOST 1048576: true; the input reads as it did. -/
def deltaRawUptoRow : OpenClaim := { program := "ytkinpbhbgeiflaadoor", sum := "de8f00511553c932fa0b8a414d83692db6d06a3cf68a25adf5a3c2dac6e376d5", func := "wharfinger/wharfingerlaw07.DeltaRaw", spec := "deltaRaw", named := ["wharfinger/sum.firstState", "wharfinger/sum.roundWords"], apart := false, laid := [("wharfinger/sum.firstState", laid_wharfinger_sum_firstState), ("wharfinger/sum.roundWords", laid_wharfinger_sum_roundWords)], narrowed := true }
def DeltaRawUptoSaid : Prop := deltaRawUptoRow.holds Tryd.pinned (OpenSpec.upto deltaRawSpec)

/-- 'wharfingerlaw07.DeltaBytes', WHERE WHAT IT READS IS OF BULK AT MOST 1048576: true; the input reads as it did. -/
def deltaBytesUptoRow : OpenClaim := { program := "ytkinpbhbgeiflaadoor", sum := "de8f00511553c932fa0b8a414d83692db6d06a3cf68a25adf5a3c2dac6e376d5", func := "wharfinger/wharfingerlaw07.DeltaBytes", spec := "deltaBytes", named := ["wharfinger/sum.firstState", "wharfinger/sum.roundWords"], apart := false, laid := [("wharfinger/sum.firstState", laid_wharfinger_sum_firstState), ("wharfinger/sum.roundWords", laid_wharfinger_sum_roundWords)], narrowed := true }
def DeltaBytesUptoSaid : Prop := deltaBytesUptoRow.holds Tryd.pinned (OpenSpec.upto deltaBytesSpec)

/-- 'wharfingerlaw07.DeltaReads', WHERE WHAT IT READS IS OF BULK AT MOST 1048576: true; the input reads as it did. -/
def deltaReadsUptoRow : OpenClaim := { program := "ytkinpbhbgeiflaadoor", sum := "de8f00511553c932fa0b8a414d83692db6d06a3cf68a25adf5a3c2dac6e376d5", func := "wharfinger/wharfingerlaw07.DeltaReads", spec := "deltaReads", inPlace := ["internal/reflectlite.ValueOf", "(internal/reflectlite.Value).Type", "(internal/reflectlite.Value).IsNil", "internal/reflectlite.TypeOf", "(internal/reflectlite.Value).Elem", "(internal/reflectlite.Value).Set"], unfollowed := true, recurses := true, named := ["wharfinger/sum.firstState", "wharfinger/sum.roundWords", "errors.errorType"], apart := false, laid := [("errors.errorType", laid_errors_errorType), ("wharfinger/sum.firstState", laid_wharfinger_sum_firstState), ("wharfinger/sum.roundWords", laid_wharfinger_sum_roundWords)], narrowed := true }
def DeltaReadsUptoSaid : Prop := deltaReadsUptoRow.holds Tryd.pinned (OpenSpec.upto deltaReadsSpec)

/-- 'wharfingerlaw07.DeltaJoined', WHERE WHAT IT READS IS OF BULK AT MOST 1048576: true; the input reads as it did. -/
def deltaJoinedUptoRow : OpenClaim := { program := "ytkinpbhbgeiflaadoor", sum := "de8f00511553c932fa0b8a414d83692db6d06a3cf68a25adf5a3c2dac6e376d5", func := "wharfinger/wharfingerlaw07.DeltaJoined", spec := "deltaJoined", named := ["wharfinger/sum.firstState", "wharfinger/sum.roundWords"], apart := false, laid := [("wharfinger/sum.firstState", laid_wharfinger_sum_firstState), ("wharfinger/sum.roundWords", laid_wharfinger_sum_roundWords)], narrowed := true }
def DeltaJoinedUptoSaid : Prop := deltaJoinedUptoRow.holds Tryd.pinned (OpenSpec.upto deltaJoinedSpec)

/-- 'wharfingerlaw07.DeltaWhole', WHERE WHAT IT READS IS OF BULK AT MOST 1048576: true; the input reads as it did. -/
def deltaWholeUptoRow : OpenClaim := { program := "ytkinpbhbgeiflaadoor", sum := "de8f00511553c932fa0b8a414d83692db6d06a3cf68a25adf5a3c2dac6e376d5", func := "wharfinger/wharfingerlaw07.DeltaWhole", spec := "deltaWhole", named := ["wharfinger/sum.firstState", "wharfinger/sum.roundWords"], apart := false, laid := [("wharfinger/sum.firstState", laid_wharfinger_sum_firstState), ("wharfinger/sum.roundWords", laid_wharfinger_sum_roundWords)], narrowed := true }
def DeltaWholeUptoSaid : Prop := deltaWholeUptoRow.holds Tryd.pinned (OpenSpec.upto deltaWholeSpec)

/-- 'wharfingerlaw07.DeltaOwn', WHERE WHAT IT READS IS OF BULK AT MOST 1048576: true; the input reads as it did. -/
def deltaOwnUptoRow : OpenClaim := { program := "ytkinpbhbgeiflaadoor", sum := "de8f00511553c932fa0b8a414d83692db6d06a3cf68a25adf5a3c2dac6e376d5", func := "wharfinger/wharfingerlaw07.DeltaOwn", spec := "deltaOwn", named := ["wharfinger/sum.firstState", "wharfinger/sum.roundWords"], apart := false, laid := [("wharfinger/sum.firstState", laid_wharfinger_sum_firstState), ("wharfinger/sum.roundWords", laid_wharfinger_sum_roundWords)], narrowed := true }
def DeltaOwnUptoSaid : Prop := deltaOwnUptoRow.holds Tryd.pinned (OpenSpec.upto deltaOwnSpec)

/-- 'wharfingerlaw07.DeltaFinds', WHERE WHAT IT READS IS OF BULK AT MOST 1048576: true; the input reads as it did. -/
def deltaFindsUptoRow : OpenClaim := { program := "ytkinpbhbgeiflaadoor", sum := "de8f00511553c932fa0b8a414d83692db6d06a3cf68a25adf5a3c2dac6e376d5", func := "wharfinger/wharfingerlaw07.DeltaFinds", spec := "deltaFinds", named := ["wharfinger/sum.firstState", "wharfinger/sum.roundWords"], apart := false, laid := [("wharfinger/sum.firstState", laid_wharfinger_sum_firstState), ("wharfinger/sum.roundWords", laid_wharfinger_sum_roundWords)], narrowed := true }
def DeltaFindsUptoSaid : Prop := deltaFindsUptoRow.holds Tryd.pinned (OpenSpec.upto deltaFindsSpec)

/-- 'wharfingerlaw16.WordKinds', WHERE WHAT IT READS IS OF BULK AT MOST 1048576: true; the input reads as it did. -/
def wordKindsUptoRow : OpenClaim := { program := "ytkinpbhbgeiflaadoor", sum := "de8f00511553c932fa0b8a414d83692db6d06a3cf68a25adf5a3c2dac6e376d5", func := "wharfinger/wharfingerlaw16.WordKinds", spec := "wordKinds", inPlace := ["slices.overlaps[byte]", "internal/reflectlite.ValueOf", "(internal/reflectlite.Value).Type", "(internal/reflectlite.Value).IsNil", "internal/reflectlite.TypeOf", "(internal/reflectlite.Value).Elem", "(internal/reflectlite.Value).Set"], unfollowed := true, recurses := true, named := ["errors.errorType"], apart := false, laid := [("errors.errorType", laid_errors_errorType)], narrowed := true }
def WordKindsUptoSaid : Prop := wordKindsUptoRow.holds Tryd.pinned (OpenSpec.upto wordKindsSpec)

end Rows
end Go.Proofs.YtkinpbhbgeiflaaDoor
