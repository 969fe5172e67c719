/-
  NARROWER THAN 'FOR EVERY INPUT', by the rows' own cells (each row's printed sentence says how): FeedSame: laid · BlockBytes: laid · BlockFinds: laid · BlockCuts: laid · PathSets: laid · LockMany: laid · AuthAnswers: laid · AuthChecks: laid · AuthOwn: laid · AuthNobody: laid · AuthParts: laid.
  DERIVED. THE GIVEN ROWS OF THIS SEAT. 11 by the template 'for every input the law returns true; each argument reads behind the call as it read before'; 0 by the template 'total and deterministic' (their statements: YtifepgigkmhdaaaDoorTotals.lean).
  GIVEN WITH THE SEED: the statements are not yours to turn. If you find one false, say at which input.
  Laid BY PROGRAM, IN A SANDBOX (cutbox-rows.mjs): the forced cells as the released guide's own fill.sh prints them over the translation 2c04913a61a6b5f9… (all of the seat's roots in one cut). By AI agents, Wed Nov 11 2026. No macro, syntax, notation, axiom, sorry.
-/
import Derived.Test.YtifepgigkmhdaaaDoorChecked
import GoSem.PinnedTables
import GoSem.Claim
import GoSem.ClaimJoined
import GoSem.ClaimMapViews
import Derived.JoinedTies
import Derived.KernelRfl
namespace Go.Proofs.YtifepgigkmhdaaaDoor
/- THE CELL 'sum', in the pinned program and in every row, IS THE sha256 OF THE DUMP (.gsa) THAT YtifepgigkmhdaaaDoorProg.lean LOADS. Nothing in Lean hashes anything: it is a label: what it is worth is what the hold of that sum in a sandbox is worth. -/
noncomputable def Tryd.pinned : Pinned := { name := "ytifepgigkmhdaaadoor", sum := "2c04913a61a6b5f97a2de11bd0f76994db21302b1078e224dedc117fe83a0829", checked := Tryd.checked }
namespace Rows
def none {H : Type} : Left H := { results := [], args := [] }

/- WHAT THE LISTED PACKAGE-LEVEL VARIABLES READ AS WHEN THE CALL BEGINS. Each datum BY PROGRAM (the guide's laid-datum.mjs) off the statement by which the dump's own 'gosem.cut.vars' lays the variable. In a bare row this is a premise. The card (YtifepgigkmhdaaaDoorCards.lean) ties it to the program's text. -/
def laid_errors_errorType {H : Type} : DataW H := .iface "internal/reflectlite.rtype" (.agg [.ptr (.lit (.string [101, 114, 114, 111, 114]))])
def laid_wharfinger_sum_firstState {H : Type} : DataW H := .agg [.lit (.int .u32 1779033703), .lit (.int .u32 3144134277), .lit (.int .u32 1013904242), .lit (.int .u32 2773480762), .lit (.int .u32 1359893119), .lit (.int .u32 2600822924), .lit (.int .u32 528734635), .lit (.int .u32 1541459225)]
def laid_wharfinger_sum_roundWords {H : Type} : DataW H := .agg [.lit (.int .u32 1116352408), .lit (.int .u32 1899447441), .lit (.int .u32 3049323471), .lit (.int .u32 3921009573), .lit (.int .u32 961987163), .lit (.int .u32 1508970993), .lit (.int .u32 2453635748), .lit (.int .u32 2870763221), .lit (.int .u32 3624381080), .lit (.int .u32 310598401), .lit (.int .u32 607225278), .lit (.int .u32 1426881987), .lit (.int .u32 1925078388), .lit (.int .u32 2162078206), .lit (.int .u32 2614888103), .lit (.int .u32 3248222580), .lit (.int .u32 3835390401), .lit (.int .u32 4022224774), .lit (.int .u32 264347078), .lit (.int .u32 604807628), .lit (.int .u32 770255983), .lit (.int .u32 1249150122), .lit (.int .u32 1555081692), .lit (.int .u32 1996064986), .lit (.int .u32 2554220882), .lit (.int .u32 2821834349), .lit (.int .u32 2952996808), .lit (.int .u32 3210313671), .lit (.int .u32 3336571891), .lit (.int .u32 3584528711), .lit (.int .u32 113926993), .lit (.int .u32 338241895), .lit (.int .u32 666307205), .lit (.int .u32 773529912), .lit (.int .u32 1294757372), .lit (.int .u32 1396182291), .lit (.int .u32 1695183700), .lit (.int .u32 1986661051), .lit (.int .u32 2177026350), .lit (.int .u32 2456956037), .lit (.int .u32 2730485921), .lit (.int .u32 2820302411), .lit (.int .u32 3259730800), .lit (.int .u32 3345764771), .lit (.int .u32 3516065817), .lit (.int .u32 3600352804), .lit (.int .u32 4094571909), .lit (.int .u32 275423344), .lit (.int .u32 430227734), .lit (.int .u32 506948616), .lit (.int .u32 659060556), .lit (.int .u32 883997877), .lit (.int .u32 958139571), .lit (.int .u32 1322822218), .lit (.int .u32 1537002063), .lit (.int .u32 1747873779), .lit (.int .u32 1955562222), .lit (.int .u32 2024104815), .lit (.int .u32 2227730452), .lit (.int .u32 2361852424), .lit (.int .u32 2428436474), .lit (.int .u32 2756734187), .lit (.int .u32 3204031479), .lit (.int .u32 3329325298)]
def laid_unicode_utf8_acceptRanges {H : Type} : DataW H := .agg [.agg [.lit (.int .u8 128), .lit (.int .u8 191)], .agg [.lit (.int .u8 160), .lit (.int .u8 191)], .agg [.lit (.int .u8 128), .lit (.int .u8 159)], .agg [.lit (.int .u8 144), .lit (.int .u8 191)], .agg [.lit (.int .u8 128), .lit (.int .u8 143)], .agg [.lit (.int .u8 0), .lit (.int .u8 0)], .agg [.lit (.int .u8 0), .lit (.int .u8 0)], .agg [.lit (.int .u8 0), .lit (.int .u8 0)], .agg [.lit (.int .u8 0), .lit (.int .u8 0)], .agg [.lit (.int .u8 0), .lit (.int .u8 0)], .agg [.lit (.int .u8 0), .lit (.int .u8 0)], .agg [.lit (.int .u8 0), .lit (.int .u8 0)], .agg [.lit (.int .u8 0), .lit (.int .u8 0)], .agg [.lit (.int .u8 0), .lit (.int .u8 0)], .agg [.lit (.int .u8 0), .lit (.int .u8 0)], .agg [.lit (.int .u8 0), .lit (.int .u8 0)]]
/-- One of Go's own tables, pinned by name: the form's constant. -/
def laid_unicode_utf8_first : DataW Unit := Go.Pinned.utf8First

/-- 'wharfingerlaw05.FeedSame': WHATEVER THE INPUT: true; the input reads as it did. -/
def feedSameSpec : ChangeSpec := { name := "feedSame", fn := fun _ => fun
  | [d1, d2] => { results := [.lit (.bool true)], args := [d1, d2] }
  | _ => none }
def feedSameRow : OpenClaim := { program := "ytifepgigkmhdaaadoor", sum := "2c04913a61a6b5f97a2de11bd0f76994db21302b1078e224dedc117fe83a0829", func := "wharfinger/wharfingerlaw05.FeedSame", spec := "feedSame", inPlace := ["internal/reflectlite.TypeOf", "internal/reflectlite.ValueOf", "(internal/reflectlite.Value).Type", "(internal/reflectlite.Value).IsNil", "(internal/reflectlite.Value).Elem", "(internal/reflectlite.Value).Set"], unfollowed := true, recurses := true, named := ["errors.errorType"], apart := false, laid := [("errors.errorType", laid_errors_errorType)] }
def FeedSameSaid : Prop := feedSameRow.holds Tryd.pinned (OpenSpec.ofChange feedSameSpec)

/-- ITS FALSE NEIGHBOUR: 'it returns false'. Refute it at one input. -/
def feedSameWrong : ChangeSpec := { name := "feedSame", fn := fun _ => fun
  | [d1, d2] => { results := [.lit (.bool false)], args := [d1, d2] }
  | _ => none }
def FeedSameWrongFalsely : Prop := feedSameRow.holds Tryd.pinned (OpenSpec.ofChange feedSameWrong)

/-- 'wharfingerlaw06.BlockBytes': WHATEVER THE INPUT: true; the input reads as it did. -/
def blockBytesSpec : ChangeSpec := { name := "blockBytes", fn := fun _ => fun
  | [d] => { results := [.lit (.bool true)], args := [d] }
  | _ => none }
def blockBytesRow : OpenClaim := { program := "ytifepgigkmhdaaadoor", sum := "2c04913a61a6b5f97a2de11bd0f76994db21302b1078e224dedc117fe83a0829", func := "wharfinger/wharfingerlaw06.BlockBytes", spec := "blockBytes", named := ["wharfinger/sum.firstState", "wharfinger/sum.roundWords"], apart := false, laid := [("wharfinger/sum.firstState", laid_wharfinger_sum_firstState), ("wharfinger/sum.roundWords", laid_wharfinger_sum_roundWords)] }
def BlockBytesSaid : Prop := blockBytesRow.holds Tryd.pinned (OpenSpec.ofChange blockBytesSpec)

/-- ITS FALSE NEIGHBOUR: 'it returns false'. Refute it at one input. -/
def blockBytesWrong : ChangeSpec := { name := "blockBytes", fn := fun _ => fun
  | [d] => { results := [.lit (.bool false)], args := [d] }
  | _ => none }
def BlockBytesWrongFalsely : Prop := blockBytesRow.holds Tryd.pinned (OpenSpec.ofChange blockBytesWrong)

/-- 'wharfingerlaw06.BlockFinds': WHATEVER THE INPUT: true; the input reads as it did. -/
def blockFindsSpec : ChangeSpec := { name := "blockFinds", fn := fun _ => fun
  | [d1, d2, d3] => { results := [.lit (.bool true)], args := [d1, d2, d3] }
  | _ => none }
def blockFindsRow : OpenClaim := { program := "ytifepgigkmhdaaadoor", sum := "2c04913a61a6b5f97a2de11bd0f76994db21302b1078e224dedc117fe83a0829", func := "wharfinger/wharfingerlaw06.BlockFinds", spec := "blockFinds", named := ["wharfinger/sum.firstState", "wharfinger/sum.roundWords"], apart := false, laid := [("wharfinger/sum.firstState", laid_wharfinger_sum_firstState), ("wharfinger/sum.roundWords", laid_wharfinger_sum_roundWords)] }
def BlockFindsSaid : Prop := blockFindsRow.holds Tryd.pinned (OpenSpec.ofChange blockFindsSpec)

/-- ITS FALSE NEIGHBOUR: 'it returns false'. Refute it at one input. -/
def blockFindsWrong : ChangeSpec := { name := "blockFinds", fn := fun _ => fun
  | [d1, d2, d3] => { results := [.lit (.bool false)], args := [d1, d2, d3] }
  | _ => none }
def BlockFindsWrongFalsely : Prop := blockFindsRow.holds Tryd.pinned (OpenSpec.ofChange blockFindsWrong)

/-- 'wharfingerlaw06.BlockCuts': WHATEVER THE INPUT: true; the input reads as it did. -/
def blockCutsSpec : ChangeSpec := { name := "blockCuts", fn := fun _ => fun
  | [d1, d2, d3] => { results := [.lit (.bool true)], args := [d1, d2, d3] }
  | _ => none }
def blockCutsRow : OpenClaim := { program := "ytifepgigkmhdaaadoor", sum := "2c04913a61a6b5f97a2de11bd0f76994db21302b1078e224dedc117fe83a0829", func := "wharfinger/wharfingerlaw06.BlockCuts", spec := "blockCuts", named := ["wharfinger/sum.firstState", "wharfinger/sum.roundWords"], apart := false, laid := [("wharfinger/sum.firstState", laid_wharfinger_sum_firstState), ("wharfinger/sum.roundWords", laid_wharfinger_sum_roundWords)] }
def BlockCutsSaid : Prop := blockCutsRow.holds Tryd.pinned (OpenSpec.ofChange blockCutsSpec)

/-- ITS FALSE NEIGHBOUR: 'it returns false'. Refute it at one input. -/
def blockCutsWrong : ChangeSpec := { name := "blockCuts", fn := fun _ => fun
  | [d1, d2, d3] => { results := [.lit (.bool false)], args := [d1, d2, d3] }
  | _ => none }
def BlockCutsWrongFalsely : Prop := blockCutsRow.holds Tryd.pinned (OpenSpec.ofChange blockCutsWrong)

/-- 'wharfingerlaw09.PathSets': WHATEVER THE INPUT: true; the input reads as it did. -/
def pathSetsSpec : ChangeSpec := { name := "pathSets", fn := fun _ => fun
  | [d] => { results := [.lit (.bool true)], args := [d] }
  | _ => none }
def pathSetsRow : OpenClaim := { program := "ytifepgigkmhdaaadoor", sum := "2c04913a61a6b5f97a2de11bd0f76994db21302b1078e224dedc117fe83a0829", func := "wharfinger/wharfingerlaw09.PathSets", spec := "pathSets", inPlace := ["internal/bytealg.CountString", "internal/bytealg.IndexByteString", "internal/bytealg.IndexString", "internal/reflectlite.TypeOf", "internal/reflectlite.ValueOf", "(internal/reflectlite.Value).Type", "(internal/reflectlite.Value).IsNil", "(internal/reflectlite.Value).Elem", "(internal/reflectlite.Value).Set"], unfollowed := true, recurses := true, named := ["unicode/utf8.first", "unicode/utf8.acceptRanges", "internal/bytealg.MaxLen", "errors.errorType"], apart := false, laid := [("unicode/utf8.acceptRanges", laid_unicode_utf8_acceptRanges), ("errors.errorType", laid_errors_errorType), ("unicode/utf8.first", laid_unicode_utf8_first)] }
def PathSetsSaid : Prop := pathSetsRow.holds Tryd.pinned (OpenSpec.ofChange pathSetsSpec)

/-- ITS FALSE NEIGHBOUR: 'it returns false'. Refute it at one input. -/
def pathSetsWrong : ChangeSpec := { name := "pathSets", fn := fun _ => fun
  | [d] => { results := [.lit (.bool false)], args := [d] }
  | _ => none }
def PathSetsWrongFalsely : Prop := pathSetsRow.holds Tryd.pinned (OpenSpec.ofChange pathSetsWrong)

/-- 'wharfingerlaw12.LockMany': WHATEVER THE INPUT: true; the input reads as it did. -/
def lockManySpec : ChangeSpec := { name := "lockMany", fn := fun _ => fun
  | [d] => { results := [.lit (.bool true)], args := [d] }
  | _ => none }
def lockManyRow : OpenClaim := { program := "ytifepgigkmhdaaadoor", sum := "2c04913a61a6b5f97a2de11bd0f76994db21302b1078e224dedc117fe83a0829", func := "wharfinger/wharfingerlaw12.LockMany", spec := "lockMany", inPlace := ["internal/bytealg.CountString", "internal/bytealg.IndexByteString", "internal/bytealg.IndexString", "internal/reflectlite.ValueOf", "(internal/reflectlite.Value).Type", "(internal/reflectlite.Value).IsNil", "internal/reflectlite.TypeOf", "(internal/reflectlite.Value).Elem", "(internal/reflectlite.Value).Set"], unfollowed := true, recurses := true, named := ["unicode/utf8.first", "unicode/utf8.acceptRanges", "internal/bytealg.MaxLen", "errors.errorType"], apart := false, laid := [("unicode/utf8.acceptRanges", laid_unicode_utf8_acceptRanges), ("errors.errorType", laid_errors_errorType), ("unicode/utf8.first", laid_unicode_utf8_first)] }
def LockManySaid : Prop := lockManyRow.holds Tryd.pinned (OpenSpec.ofChange lockManySpec)

/-- ITS FALSE NEIGHBOUR: 'it returns false'. Refute it at one input. -/
def lockManyWrong : ChangeSpec := { name := "lockMany", fn := fun _ => fun
  | [d] => { results := [.lit (.bool false)], args := [d] }
  | _ => none }
def LockManyWrongFalsely : Prop := lockManyRow.holds Tryd.pinned (OpenSpec.ofChange lockManyWrong)

/-- 'wharfingerlaw14.AuthAnswers': WHATEVER THE INPUT: true; the input reads as it did. -/
def authAnswersSpec : ChangeSpec := { name := "authAnswers", fn := fun _ => fun
  | [d1, d2, d3] => { results := [.lit (.bool true)], args := [d1, d2, d3] }
  | _ => none }
def authAnswersRow : OpenClaim := { program := "ytifepgigkmhdaaadoor", sum := "2c04913a61a6b5f97a2de11bd0f76994db21302b1078e224dedc117fe83a0829", func := "wharfinger/wharfingerlaw14.AuthAnswers", spec := "authAnswers", unfollowed := true, recurses := true, named := ["wharfinger/sum.firstState", "wharfinger/sum.roundWords"], apart := false, laid := [("wharfinger/sum.firstState", laid_wharfinger_sum_firstState), ("wharfinger/sum.roundWords", laid_wharfinger_sum_roundWords)] }
def AuthAnswersSaid : Prop := authAnswersRow.holds Tryd.pinned (OpenSpec.ofChange authAnswersSpec)

/-- ITS FALSE NEIGHBOUR: 'it returns false'. Refute it at one input. -/
def authAnswersWrong : ChangeSpec := { name := "authAnswers", fn := fun _ => fun
  | [d1, d2, d3] => { results := [.lit (.bool false)], args := [d1, d2, d3] }
  | _ => none }
def AuthAnswersWrongFalsely : Prop := authAnswersRow.holds Tryd.pinned (OpenSpec.ofChange authAnswersWrong)

/-- 'wharfingerlaw14.AuthChecks': WHATEVER THE INPUT: true; the input reads as it did. -/
def authChecksSpec : ChangeSpec := { name := "authChecks", fn := fun _ => fun
  | [d1, d2, d3] => { results := [.lit (.bool true)], args := [d1, d2, d3] }
  | _ => none }
def authChecksRow : OpenClaim := { program := "ytifepgigkmhdaaadoor", sum := "2c04913a61a6b5f97a2de11bd0f76994db21302b1078e224dedc117fe83a0829", func := "wharfinger/wharfingerlaw14.AuthChecks", spec := "authChecks", unfollowed := true, recurses := true, named := ["wharfinger/sum.firstState", "wharfinger/sum.roundWords"], apart := false, laid := [("wharfinger/sum.firstState", laid_wharfinger_sum_firstState), ("wharfinger/sum.roundWords", laid_wharfinger_sum_roundWords)] }
def AuthChecksSaid : Prop := authChecksRow.holds Tryd.pinned (OpenSpec.ofChange authChecksSpec)

/-- ITS FALSE NEIGHBOUR: 'it returns false'. Refute it at one input. -/
def authChecksWrong : ChangeSpec := { name := "authChecks", fn := fun _ => fun
  | [d1, d2, d3] => { results := [.lit (.bool false)], args := [d1, d2, d3] }
  | _ => none }
def AuthChecksWrongFalsely : Prop := authChecksRow.holds Tryd.pinned (OpenSpec.ofChange authChecksWrong)

/-- 'wharfingerlaw14.AuthOwn': WHATEVER THE INPUT: true; the input reads as it did. -/
def authOwnSpec : ChangeSpec := { name := "authOwn", fn := fun _ => fun
  | [d1, d2, d3] => { results := [.lit (.bool true)], args := [d1, d2, d3] }
  | _ => none }
def authOwnRow : OpenClaim := { program := "ytifepgigkmhdaaadoor", sum := "2c04913a61a6b5f97a2de11bd0f76994db21302b1078e224dedc117fe83a0829", func := "wharfinger/wharfingerlaw14.AuthOwn", spec := "authOwn", unfollowed := true, recurses := true, named := ["wharfinger/sum.firstState", "wharfinger/sum.roundWords"], apart := false, laid := [("wharfinger/sum.firstState", laid_wharfinger_sum_firstState), ("wharfinger/sum.roundWords", laid_wharfinger_sum_roundWords)] }
def AuthOwnSaid : Prop := authOwnRow.holds Tryd.pinned (OpenSpec.ofChange authOwnSpec)

/-- ITS FALSE NEIGHBOUR: 'it returns false'. Refute it at one input. -/
def authOwnWrong : ChangeSpec := { name := "authOwn", fn := fun _ => fun
  | [d1, d2, d3] => { results := [.lit (.bool false)], args := [d1, d2, d3] }
  | _ => none }
def AuthOwnWrongFalsely : Prop := authOwnRow.holds Tryd.pinned (OpenSpec.ofChange authOwnWrong)

/-- 'wharfingerlaw14.AuthNobody': WHATEVER THE INPUT: true; the input reads as it did. -/
def authNobodySpec : ChangeSpec := { name := "authNobody", fn := fun _ => fun
  | [d1, d2, d3] => { results := [.lit (.bool true)], args := [d1, d2, d3] }
  | _ => none }
def authNobodyRow : OpenClaim := { program := "ytifepgigkmhdaaadoor", sum := "2c04913a61a6b5f97a2de11bd0f76994db21302b1078e224dedc117fe83a0829", func := "wharfinger/wharfingerlaw14.AuthNobody", spec := "authNobody", unfollowed := true, recurses := true, named := ["wharfinger/sum.firstState", "wharfinger/sum.roundWords"], apart := false, laid := [("wharfinger/sum.firstState", laid_wharfinger_sum_firstState), ("wharfinger/sum.roundWords", laid_wharfinger_sum_roundWords)] }
def AuthNobodySaid : Prop := authNobodyRow.holds Tryd.pinned (OpenSpec.ofChange authNobodySpec)

/-- ITS FALSE NEIGHBOUR: 'it returns false'. Refute it at one input. -/
def authNobodyWrong : ChangeSpec := { name := "authNobody", fn := fun _ => fun
  | [d1, d2, d3] => { results := [.lit (.bool false)], args := [d1, d2, d3] }
  | _ => none }
def AuthNobodyWrongFalsely : Prop := authNobodyRow.holds Tryd.pinned (OpenSpec.ofChange authNobodyWrong)

/-- 'wharfingerlaw14.AuthParts': WHATEVER THE INPUT: true; the input reads as it did. -/
def authPartsSpec : ChangeSpec := { name := "authParts", fn := fun _ => fun
  | [d1, d2, d3] => { results := [.lit (.bool true)], args := [d1, d2, d3] }
  | _ => none }
def authPartsRow : OpenClaim := { program := "ytifepgigkmhdaaadoor", sum := "2c04913a61a6b5f97a2de11bd0f76994db21302b1078e224dedc117fe83a0829", func := "wharfinger/wharfingerlaw14.AuthParts", spec := "authParts", unfollowed := true, recurses := true, named := ["wharfinger/sum.firstState", "wharfinger/sum.roundWords"], apart := false, laid := [("wharfinger/sum.firstState", laid_wharfinger_sum_firstState), ("wharfinger/sum.roundWords", laid_wharfinger_sum_roundWords)] }
def AuthPartsSaid : Prop := authPartsRow.holds Tryd.pinned (OpenSpec.ofChange authPartsSpec)

/-- ITS FALSE NEIGHBOUR: 'it returns false'. Refute it at one input. -/
def authPartsWrong : ChangeSpec := { name := "authParts", fn := fun _ => fun
  | [d1, d2, d3] => { results := [.lit (.bool false)], args := [d1, d2, d3] }
  | _ => none }
def AuthPartsWrongFalsely : Prop := authPartsRow.holds Tryd.pinned (OpenSpec.ofChange authPartsWrong)

/- THE SECOND FORM. 'bulk': how many values and letters a reading holds, each counted each time it is reached (what is shared counts as often as it is met; a slice's spare places count too). A statement '..UptoSaid' is the law's where the arguments, and the package variables that the reading takes, are together of bulk at most 1048576: NARROWER than '..Said'. Prove '..Said' where nothing that the law and all that it calls make is longer than what came in: it says more and counts as full. Else prove '..UptoSaid'. A law counts once. -/
mutual
def uptoBulk {H : Type} : DataW H → Nat
  | .lit (.string bytes) => bytes.length + 1
  | .lit _ => 1
  | .nil => 1
  | .ptr d => uptoBulk d + 1
  | .slice elems spare => uptoBulkAll elems + uptoBulkAll spare + 1
  | .agg parts => uptoBulkAll parts + 1
  | .iface _ d => uptoBulk d + 1
  | .map entries => uptoBulkEntries entries + 1
  | .held _ => 1
def uptoBulkAll {H : Type} : List (DataW H) → Nat
  | [] => 0
  | d :: r => uptoBulk d + uptoBulkAll r
def uptoBulkEntries {H : Type} : List (Lit × DataW H) → Nat
  | [] => 0
  | x :: r => uptoBulkEntry x + uptoBulkEntries r
def uptoBulkEntry {H : Type} : Lit × DataW H → Nat
  | (.string bytes, d) => bytes.length + uptoBulk d + 1
  | (_, d) => uptoBulk d + 1
 end
def uptoSmall : (H : Type) → List (DataW H) → Bool := fun _ ds => decide (uptoBulkAll ds ≤ 1048576)
def OpenSpec.upto (s : _root_.Go.ChangeSpec) : _root_.Go.OpenSpec := { _root_.Go.OpenSpec.ofChange s with cond := some uptoSmall }

/-- 'wharfingerlaw05.FeedSame', WHERE WHAT IT READS IS OF BULK AT MOST 1048576: true; the input reads as it did. -/
def feedSameUptoRow : OpenClaim := { program := "ytifepgigkmhdaaadoor", sum := "2c04913a61a6b5f97a2de11bd0f76994db21302b1078e224dedc117fe83a0829", func := "wharfinger/wharfingerlaw05.FeedSame", spec := "feedSame", inPlace := ["internal/reflectlite.TypeOf", "internal/reflectlite.ValueOf", "(internal/reflectlite.Value).Type", "(internal/reflectlite.Value).IsNil", "(internal/reflectlite.Value).Elem", "(internal/reflectlite.Value).Set"], unfollowed := true, recurses := true, named := ["errors.errorType"], apart := false, laid := [("errors.errorType", laid_errors_errorType)], narrowed := true }
def FeedSameUptoSaid : Prop := feedSameUptoRow.holds Tryd.pinned (OpenSpec.upto feedSameSpec)

/-- 'wharfingerlaw06.BlockBytes', WHERE WHAT IT READS IS OF BULK AT MOST 1048576: true; the input reads as it did. -/
def blockBytesUptoRow : OpenClaim := { program := "ytifepgigkmhdaaadoor", sum := "2c04913a61a6b5f97a2de11bd0f76994db21302b1078e224dedc117fe83a0829", func := "wharfinger/wharfingerlaw06.BlockBytes", spec := "blockBytes", named := ["wharfinger/sum.firstState", "wharfinger/sum.roundWords"], apart := false, laid := [("wharfinger/sum.firstState", laid_wharfinger_sum_firstState), ("wharfinger/sum.roundWords", laid_wharfinger_sum_roundWords)], narrowed := true }
def BlockBytesUptoSaid : Prop := blockBytesUptoRow.holds Tryd.pinned (OpenSpec.upto blockBytesSpec)

/-- 'wharfingerlaw06.BlockFinds', WHERE WHAT IT READS IS OF BULK AT MOST 1048576: true; the input reads as it did. -/
def blockFindsUptoRow : OpenClaim := { program := "ytifepgigkmhdaaadoor", sum := "2c04913a61a6b5f97a2de11bd0f76994db21302b1078e224dedc117fe83a0829", func := "wharfinger/wharfingerlaw06.BlockFinds", spec := "blockFinds", named := ["wharfinger/sum.firstState", "wharfinger/sum.roundWords"], apart := false, laid := [("wharfinger/sum.firstState", laid_wharfinger_sum_firstState), ("wharfinger/sum.roundWords", laid_wharfinger_sum_roundWords)], narrowed := true }
def BlockFindsUptoSaid : Prop := blockFindsUptoRow.holds Tryd.pinned (OpenSpec.upto blockFindsSpec)

/-- 'wharfingerlaw06.BlockCuts', WHERE WHAT IT READS IS OF BULK AT MOST 1048576: true; the input reads as it did. -/
def blockCutsUptoRow : OpenClaim := { program := "ytifepgigkmhdaaadoor", sum := "2c04913a61a6b5f97a2de11bd0f76994db21302b1078e224dedc117fe83a0829", func := "wharfinger/wharfingerlaw06.BlockCuts", spec := "blockCuts", named := ["wharfinger/sum.firstState", "wharfinger/sum.roundWords"], apart := false, laid := [("wharfinger/sum.firstState", laid_wharfinger_sum_firstState), ("wharfinger/sum.roundWords", laid_wharfinger_sum_roundWords)], narrowed := true }
def BlockCutsUptoSaid : Prop := blockCutsUptoRow.holds Tryd.pinned (OpenSpec.upto blockCutsSpec)

/-- 'wharfingerlaw09.PathSets', WHERE WHAT IT READS IS OF BULK AT MOST 1048576: true; the input reads as it did. -/
def pathSetsUptoRow : OpenClaim := { program := "ytifepgigkmhdaaadoor", sum := "2c04913a61a6b5f97a2de11bd0f76994db21302b1078e224dedc117fe83a0829", func := "wharfinger/wharfingerlaw09.PathSets", spec := "pathSets", inPlace := ["internal/bytealg.CountString", "internal/bytealg.IndexByteString", "internal/bytealg.IndexString", "internal/reflectlite.TypeOf", "internal/reflectlite.ValueOf", "(internal/reflectlite.Value).Type", "(internal/reflectlite.Value).IsNil", "(internal/reflectlite.Value).Elem", "(internal/reflectlite.Value).Set"], unfollowed := true, recurses := true, named := ["unicode/utf8.first", "unicode/utf8.acceptRanges", "internal/bytealg.MaxLen", "errors.errorType"], apart := false, laid := [("unicode/utf8.acceptRanges", laid_unicode_utf8_acceptRanges), ("errors.errorType", laid_errors_errorType), ("unicode/utf8.first", laid_unicode_utf8_first)], narrowed := true }
def PathSetsUptoSaid : Prop := pathSetsUptoRow.holds Tryd.pinned (OpenSpec.upto pathSetsSpec)

/-- 'wharfingerlaw12.LockMany', WHERE WHAT IT READS IS OF BULK AT MOST 1048576: true; the input reads as it did. -/
def lockManyUptoRow : OpenClaim := { program := "ytifepgigkmhdaaadoor", sum := "2c04913a61a6b5f97a2de11bd0f76994db21302b1078e224dedc117fe83a0829", func := "wharfinger/wharfingerlaw12.LockMany", spec := "lockMany", inPlace := ["internal/bytealg.CountString", "internal/bytealg.IndexByteString", "internal/bytealg.IndexString", "internal/reflectlite.ValueOf", "(internal/reflectlite.Value).Type", "(internal/reflectlite.Value).IsNil", "internal/reflectlite.TypeOf", "(internal/reflectlite.Value).Elem", "(internal/reflectlite.Value).Set"], unfollowed := true, recurses := true, named := ["unicode/utf8.first", "unicode/utf8.acceptRanges", "internal/bytealg.MaxLen", "errors.errorType"], apart := false, laid := [("unicode/utf8.acceptRanges", laid_unicode_utf8_acceptRanges), ("errors.errorType", laid_errors_errorType), ("unicode/utf8.first", laid_unicode_utf8_first)], narrowed := true }
def LockManyUptoSaid : Prop := lockManyUptoRow.holds Tryd.pinned (OpenSpec.upto lockManySpec)

/-- 'wharfingerlaw14.AuthAnswers', WHERE WHAT IT READS IS OF BULK AT MOST 1048576: true; the input reads as it did. -/
def authAnswersUptoRow : OpenClaim := { program := "ytifepgigkmhdaaadoor", sum := "2c04913a61a6b5f97a2de11bd0f76994db21302b1078e224dedc117fe83a0829", func := "wharfinger/wharfingerlaw14.AuthAnswers", spec := "authAnswers", unfollowed := true, recurses := true, named := ["wharfinger/sum.firstState", "wharfinger/sum.roundWords"], apart := false, laid := [("wharfinger/sum.firstState", laid_wharfinger_sum_firstState), ("wharfinger/sum.roundWords", laid_wharfinger_sum_roundWords)], narrowed := true }
def AuthAnswersUptoSaid : Prop := authAnswersUptoRow.holds Tryd.pinned (OpenSpec.upto authAnswersSpec)

/-- 'wharfingerlaw14.AuthChecks', WHERE WHAT IT READS IS OF BULK AT MOST 1048576: true; the input reads as it did. -/
def authChecksUptoRow : OpenClaim := { program := "ytifepgigkmhdaaadoor", sum := "2c04913a61a6b5f97a2de11bd0f76994db21302b1078e224dedc117fe83a0829", func := "wharfinger/wharfingerlaw14.AuthChecks", spec := "authChecks", unfollowed := true, recurses := true, named := ["wharfinger/sum.firstState", "wharfinger/sum.roundWords"], apart := false, laid := [("wharfinger/sum.firstState", laid_wharfinger_sum_firstState), ("wharfinger/sum.roundWords", laid_wharfinger_sum_roundWords)], narrowed := true }
def AuthChecksUptoSaid : Prop := authChecksUptoRow.holds Tryd.pinned (OpenSpec.upto authChecksSpec)

/-- 'wharfingerlaw14.AuthOwn', WHERE WHAT IT READS IS OF BULK AT MOST 1048576: true; the input reads as it did. -/
def authOwnUptoRow : OpenClaim := { program := "ytifepgigkmhdaaadoor", sum := "2c04913a61a6b5f97a2de11bd0f76994db21302b1078e224dedc117fe83a0829", func := "wharfinger/wharfingerlaw14.AuthOwn", spec := "authOwn", unfollowed := true, recurses := true, named := ["wharfinger/sum.firstState", "wharfinger/sum.roundWords"], apart := false, laid := [("wharfinger/sum.firstState", laid_wharfinger_sum_firstState), ("wharfinger/sum.roundWords", laid_wharfinger_sum_roundWords)], narrowed := true }
def AuthOwnUptoSaid : Prop := authOwnUptoRow.holds Tryd.pinned (OpenSpec.upto authOwnSpec)

/-- 'wharfingerlaw14.AuthNobody', WHERE WHAT IT READS IS OF BULK AT MOST 1048576: true; the input reads as it did. -/
def authNobodyUptoRow : OpenClaim := { program := "ytifepgigkmhdaaadoor", sum := "2c04913a61a6b5f97a2de11bd0f76994db21302b1078e224dedc117fe83a0829", func := "wharfinger/wharfingerlaw14.AuthNobody", spec := "authNobody", unfollowed := true, recurses := true, named := ["wharfinger/sum.firstState", "wharfinger/sum.roundWords"], apart := false, laid := [("wharfinger/sum.firstState", laid_wharfinger_sum_firstState), ("wharfinger/sum.roundWords", laid_wharfinger_sum_roundWords)], narrowed := true }
def AuthNobodyUptoSaid : Prop := authNobodyUptoRow.holds Tryd.pinned (OpenSpec.upto authNobodySpec)

/-- 'wharfingerlaw14.AuthParts', WHERE WHAT IT READS IS OF BULK AT MOST 1048576: true; the input reads as it did. -/
def authPartsUptoRow : OpenClaim := { program := "ytifepgigkmhdaaadoor", sum := "2c04913a61a6b5f97a2de11bd0f76994db21302b1078e224dedc117fe83a0829", func := "wharfinger/wharfingerlaw14.AuthParts", spec := "authParts", unfollowed := true, recurses := true, named := ["wharfinger/sum.firstState", "wharfinger/sum.roundWords"], apart := false, laid := [("wharfinger/sum.firstState", laid_wharfinger_sum_firstState), ("wharfinger/sum.roundWords", laid_wharfinger_sum_roundWords)], narrowed := true }
def AuthPartsUptoSaid : Prop := authPartsUptoRow.holds Tryd.pinned (OpenSpec.upto authPartsSpec)

end Rows
end Go.Proofs.YtifepgigkmhdaaaDoor
