/-
  NARROWER THAN 'FOR EVERY INPUT', by the rows' own cells (each row's printed sentence says how): SumOf: laid · SumCut: laid · SumMac: laid · SumEnds: laid · SumKeys: laid · CodeReads: laid · CodeBack: laid · CodeErrors: laid · CodeStands: laid · CodeLong: laid.
  DERIVED. THE GIVEN ROWS OF THIS SEAT. 10 by the template 'for every input the law returns true; each argument reads behind the call as it read before'; 0 by the template 'total and deterministic' (their statements: YtjojckdoocbelaaDoorTotals.lean).
  GIVEN WITH THE SEED: the statements are not yours to turn. If you find one false, say at which input.
  Laid BY PROGRAM, IN A SANDBOX (cutbox-rows.mjs): the forced cells as the released guide's own fill.sh prints them over the translation 61d1ffa2fd5e3806… (all of the seat's roots in one cut). By AI agents, Wed Nov 11 2026. No macro, syntax, notation, axiom, sorry.
-/
import Derived.Test.YtjojckdoocbelaaDoorChecked
import GoSem.Claim
import GoSem.ClaimJoined
import GoSem.ClaimMapViews
import Derived.JoinedTies
import Derived.KernelRfl
namespace Go.Proofs.YtjojckdoocbelaaDoor
/- THE CELL 'sum', in the pinned program and in every row, IS THE sha256 OF THE DUMP (.gsa) THAT YtjojckdoocbelaaDoorProg.lean LOADS. Nothing in Lean hashes anything: it is a label: what it is worth is what the hold of that sum in a sandbox is worth. -/
noncomputable def Tryd.pinned : Pinned := { name := "ytjojckdoocbelaadoor", sum := "61d1ffa2fd5e38060ea790e5bec078b3d0b015a55b3cce2cb3850152b48eace2", checked := Tryd.checked }
namespace Rows
def none {H : Type} : Left H := { results := [], args := [] }

/- WHAT THE LISTED PACKAGE-LEVEL VARIABLES READ AS WHEN THE CALL BEGINS. Each datum BY PROGRAM (the guide's laid-datum.mjs) off the statement by which the dump's own 'gosem.cut.vars' lays the variable. In a bare row this is a premise. The card (YtjojckdoocbelaaDoorCards.lean) ties it to the program's text. -/
def laid_wharfinger_sum_firstState {H : Type} : DataW H := .agg [.lit (.int .u32 1779033703), .lit (.int .u32 3144134277), .lit (.int .u32 1013904242), .lit (.int .u32 2773480762), .lit (.int .u32 1359893119), .lit (.int .u32 2600822924), .lit (.int .u32 528734635), .lit (.int .u32 1541459225)]
def laid_wharfinger_sum_roundWords {H : Type} : DataW H := .agg [.lit (.int .u32 1116352408), .lit (.int .u32 1899447441), .lit (.int .u32 3049323471), .lit (.int .u32 3921009573), .lit (.int .u32 961987163), .lit (.int .u32 1508970993), .lit (.int .u32 2453635748), .lit (.int .u32 2870763221), .lit (.int .u32 3624381080), .lit (.int .u32 310598401), .lit (.int .u32 607225278), .lit (.int .u32 1426881987), .lit (.int .u32 1925078388), .lit (.int .u32 2162078206), .lit (.int .u32 2614888103), .lit (.int .u32 3248222580), .lit (.int .u32 3835390401), .lit (.int .u32 4022224774), .lit (.int .u32 264347078), .lit (.int .u32 604807628), .lit (.int .u32 770255983), .lit (.int .u32 1249150122), .lit (.int .u32 1555081692), .lit (.int .u32 1996064986), .lit (.int .u32 2554220882), .lit (.int .u32 2821834349), .lit (.int .u32 2952996808), .lit (.int .u32 3210313671), .lit (.int .u32 3336571891), .lit (.int .u32 3584528711), .lit (.int .u32 113926993), .lit (.int .u32 338241895), .lit (.int .u32 666307205), .lit (.int .u32 773529912), .lit (.int .u32 1294757372), .lit (.int .u32 1396182291), .lit (.int .u32 1695183700), .lit (.int .u32 1986661051), .lit (.int .u32 2177026350), .lit (.int .u32 2456956037), .lit (.int .u32 2730485921), .lit (.int .u32 2820302411), .lit (.int .u32 3259730800), .lit (.int .u32 3345764771), .lit (.int .u32 3516065817), .lit (.int .u32 3600352804), .lit (.int .u32 4094571909), .lit (.int .u32 275423344), .lit (.int .u32 430227734), .lit (.int .u32 506948616), .lit (.int .u32 659060556), .lit (.int .u32 883997877), .lit (.int .u32 958139571), .lit (.int .u32 1322822218), .lit (.int .u32 1537002063), .lit (.int .u32 1747873779), .lit (.int .u32 1955562222), .lit (.int .u32 2024104815), .lit (.int .u32 2227730452), .lit (.int .u32 2361852424), .lit (.int .u32 2428436474), .lit (.int .u32 2756734187), .lit (.int .u32 3204031479), .lit (.int .u32 3329325298)]
def laid_errors_errorType {H : Type} : DataW H := .iface "internal/reflectlite.rtype" (.agg [.ptr (.lit (.string [101, 114, 114, 111, 114]))])

/-- 'wharfingerlaw01.SumOf': WHATEVER THE INPUT: true; the input reads as it did. -/
def sumOfSpec : ChangeSpec := { name := "sumOf", fn := fun _ => fun
  | [d] => { results := [.lit (.bool true)], args := [d] }
  | _ => none }
def sumOfRow : OpenClaim := { program := "ytjojckdoocbelaadoor", sum := "61d1ffa2fd5e38060ea790e5bec078b3d0b015a55b3cce2cb3850152b48eace2", func := "wharfinger/wharfingerlaw01.SumOf", spec := "sumOf", named := ["wharfinger/sum.firstState", "wharfinger/sum.roundWords"], apart := false, laid := [("wharfinger/sum.firstState", laid_wharfinger_sum_firstState), ("wharfinger/sum.roundWords", laid_wharfinger_sum_roundWords)] }
def SumOfSaid : Prop := sumOfRow.holds Tryd.pinned (OpenSpec.ofChange sumOfSpec)

/-- ITS FALSE NEIGHBOUR: 'it returns false'. Refute it at one input. -/
def sumOfWrong : ChangeSpec := { name := "sumOf", fn := fun _ => fun
  | [d] => { results := [.lit (.bool false)], args := [d] }
  | _ => none }
def SumOfWrongFalsely : Prop := sumOfRow.holds Tryd.pinned (OpenSpec.ofChange sumOfWrong)

/-- 'wharfingerlaw01.SumCut': WHATEVER THE INPUT: true; the input reads as it did. -/
def sumCutSpec : ChangeSpec := { name := "sumCut", fn := fun _ => fun
  | [d1, d2] => { results := [.lit (.bool true)], args := [d1, d2] }
  | _ => none }
def sumCutRow : OpenClaim := { program := "ytjojckdoocbelaadoor", sum := "61d1ffa2fd5e38060ea790e5bec078b3d0b015a55b3cce2cb3850152b48eace2", func := "wharfinger/wharfingerlaw01.SumCut", spec := "sumCut", named := ["wharfinger/sum.firstState", "wharfinger/sum.roundWords"], apart := false, laid := [("wharfinger/sum.firstState", laid_wharfinger_sum_firstState), ("wharfinger/sum.roundWords", laid_wharfinger_sum_roundWords)] }
def SumCutSaid : Prop := sumCutRow.holds Tryd.pinned (OpenSpec.ofChange sumCutSpec)

/-- ITS FALSE NEIGHBOUR: 'it returns false'. Refute it at one input. -/
def sumCutWrong : ChangeSpec := { name := "sumCut", fn := fun _ => fun
  | [d1, d2] => { results := [.lit (.bool false)], args := [d1, d2] }
  | _ => none }
def SumCutWrongFalsely : Prop := sumCutRow.holds Tryd.pinned (OpenSpec.ofChange sumCutWrong)

/-- 'wharfingerlaw01.SumMac': WHATEVER THE INPUT: true; the input reads as it did. -/
def sumMacSpec : ChangeSpec := { name := "sumMac", fn := fun _ => fun
  | [d1, d2] => { results := [.lit (.bool true)], args := [d1, d2] }
  | _ => none }
def sumMacRow : OpenClaim := { program := "ytjojckdoocbelaadoor", sum := "61d1ffa2fd5e38060ea790e5bec078b3d0b015a55b3cce2cb3850152b48eace2", func := "wharfinger/wharfingerlaw01.SumMac", spec := "sumMac", named := ["wharfinger/sum.firstState", "wharfinger/sum.roundWords"], apart := false, laid := [("wharfinger/sum.firstState", laid_wharfinger_sum_firstState), ("wharfinger/sum.roundWords", laid_wharfinger_sum_roundWords)] }
def SumMacSaid : Prop := sumMacRow.holds Tryd.pinned (OpenSpec.ofChange sumMacSpec)

/-- ITS FALSE NEIGHBOUR: 'it returns false'. Refute it at one input. -/
def sumMacWrong : ChangeSpec := { name := "sumMac", fn := fun _ => fun
  | [d1, d2] => { results := [.lit (.bool false)], args := [d1, d2] }
  | _ => none }
def SumMacWrongFalsely : Prop := sumMacRow.holds Tryd.pinned (OpenSpec.ofChange sumMacWrong)

/-- 'wharfingerlaw01.SumEnds': WHATEVER THE INPUT: true; the input reads as it did. -/
def sumEndsSpec : ChangeSpec := { name := "sumEnds", fn := fun _ => fun
  | [d1, d2, d3] => { results := [.lit (.bool true)], args := [d1, d2, d3] }
  | _ => none }
def sumEndsRow : OpenClaim := { program := "ytjojckdoocbelaadoor", sum := "61d1ffa2fd5e38060ea790e5bec078b3d0b015a55b3cce2cb3850152b48eace2", func := "wharfinger/wharfingerlaw01.SumEnds", spec := "sumEnds", named := ["wharfinger/sum.firstState", "wharfinger/sum.roundWords"], apart := false, laid := [("wharfinger/sum.firstState", laid_wharfinger_sum_firstState), ("wharfinger/sum.roundWords", laid_wharfinger_sum_roundWords)] }
def SumEndsSaid : Prop := sumEndsRow.holds Tryd.pinned (OpenSpec.ofChange sumEndsSpec)

/-- ITS FALSE NEIGHBOUR: 'it returns false'. Refute it at one input. -/
def sumEndsWrong : ChangeSpec := { name := "sumEnds", fn := fun _ => fun
  | [d1, d2, d3] => { results := [.lit (.bool false)], args := [d1, d2, d3] }
  | _ => none }
def SumEndsWrongFalsely : Prop := sumEndsRow.holds Tryd.pinned (OpenSpec.ofChange sumEndsWrong)

/-- 'wharfingerlaw01.SumKeys': WHATEVER THE INPUT: true; the input reads as it did. -/
def sumKeysSpec : ChangeSpec := { name := "sumKeys", fn := fun _ => fun
  | [d1, d2, d3] => { results := [.lit (.bool true)], args := [d1, d2, d3] }
  | _ => none }
def sumKeysRow : OpenClaim := { program := "ytjojckdoocbelaadoor", sum := "61d1ffa2fd5e38060ea790e5bec078b3d0b015a55b3cce2cb3850152b48eace2", func := "wharfinger/wharfingerlaw01.SumKeys", spec := "sumKeys", named := ["wharfinger/sum.firstState", "wharfinger/sum.roundWords"], apart := false, laid := [("wharfinger/sum.firstState", laid_wharfinger_sum_firstState), ("wharfinger/sum.roundWords", laid_wharfinger_sum_roundWords)] }
def SumKeysSaid : Prop := sumKeysRow.holds Tryd.pinned (OpenSpec.ofChange sumKeysSpec)

/-- ITS FALSE NEIGHBOUR: 'it returns false'. Refute it at one input. -/
def sumKeysWrong : ChangeSpec := { name := "sumKeys", fn := fun _ => fun
  | [d1, d2, d3] => { results := [.lit (.bool false)], args := [d1, d2, d3] }
  | _ => none }
def SumKeysWrongFalsely : Prop := sumKeysRow.holds Tryd.pinned (OpenSpec.ofChange sumKeysWrong)

/-- 'wharfingerlaw03.CodeReads': WHATEVER THE INPUT: true; the input reads as it did. -/
def codeReadsSpec : ChangeSpec := { name := "codeReads", fn := fun _ => fun
  | [d1, d2] => { results := [.lit (.bool true)], args := [d1, d2] }
  | _ => none }
def codeReadsRow : OpenClaim := { program := "ytjojckdoocbelaadoor", sum := "61d1ffa2fd5e38060ea790e5bec078b3d0b015a55b3cce2cb3850152b48eace2", func := "wharfinger/wharfingerlaw03.CodeReads", spec := "codeReads", inPlace := ["internal/reflectlite.ValueOf", "(internal/reflectlite.Value).Type", "(internal/reflectlite.Value).IsNil", "internal/reflectlite.TypeOf", "(internal/reflectlite.Value).Elem", "(internal/reflectlite.Value).Set"], unfollowed := true, recurses := true, named := ["errors.errorType"], apart := false, laid := [("errors.errorType", laid_errors_errorType)] }
def CodeReadsSaid : Prop := codeReadsRow.holds Tryd.pinned (OpenSpec.ofChange codeReadsSpec)

/-- ITS FALSE NEIGHBOUR: 'it returns false'. Refute it at one input. -/
def codeReadsWrong : ChangeSpec := { name := "codeReads", fn := fun _ => fun
  | [d1, d2] => { results := [.lit (.bool false)], args := [d1, d2] }
  | _ => none }
def CodeReadsWrongFalsely : Prop := codeReadsRow.holds Tryd.pinned (OpenSpec.ofChange codeReadsWrong)

/-- 'wharfingerlaw03.CodeBack': WHATEVER THE INPUT: true; the input reads as it did. -/
def codeBackSpec : ChangeSpec := { name := "codeBack", fn := fun _ => fun
  | [d1, d2, d3] => { results := [.lit (.bool true)], args := [d1, d2, d3] }
  | _ => none }
def codeBackRow : OpenClaim := { program := "ytjojckdoocbelaadoor", sum := "61d1ffa2fd5e38060ea790e5bec078b3d0b015a55b3cce2cb3850152b48eace2", func := "wharfinger/wharfingerlaw03.CodeBack", spec := "codeBack", inPlace := ["slices.overlaps[byte]", "internal/reflectlite.ValueOf", "(internal/reflectlite.Value).Type", "(internal/reflectlite.Value).IsNil", "internal/reflectlite.TypeOf", "(internal/reflectlite.Value).Elem", "(internal/reflectlite.Value).Set"], unfollowed := true, recurses := true, named := ["errors.errorType"], apart := false, laid := [("errors.errorType", laid_errors_errorType)] }
def CodeBackSaid : Prop := codeBackRow.holds Tryd.pinned (OpenSpec.ofChange codeBackSpec)

/-- ITS FALSE NEIGHBOUR: 'it returns false'. Refute it at one input. -/
def codeBackWrong : ChangeSpec := { name := "codeBack", fn := fun _ => fun
  | [d1, d2, d3] => { results := [.lit (.bool false)], args := [d1, d2, d3] }
  | _ => none }
def CodeBackWrongFalsely : Prop := codeBackRow.holds Tryd.pinned (OpenSpec.ofChange codeBackWrong)

/-- 'wharfingerlaw03.CodeErrors': WHATEVER THE INPUT: true; the input reads as it did. -/
def codeErrorsSpec : ChangeSpec := { name := "codeErrors", fn := fun _ => fun
  | [d1, d2] => { results := [.lit (.bool true)], args := [d1, d2] }
  | _ => none }
def codeErrorsRow : OpenClaim := { program := "ytjojckdoocbelaadoor", sum := "61d1ffa2fd5e38060ea790e5bec078b3d0b015a55b3cce2cb3850152b48eace2", func := "wharfinger/wharfingerlaw03.CodeErrors", spec := "codeErrors", inPlace := ["internal/reflectlite.ValueOf", "(internal/reflectlite.Value).Type", "(internal/reflectlite.Value).IsNil", "internal/reflectlite.TypeOf", "(internal/reflectlite.Value).Elem", "(internal/reflectlite.Value).Set"], unfollowed := true, recurses := true, named := ["errors.errorType"], apart := false, laid := [("errors.errorType", laid_errors_errorType)] }
def CodeErrorsSaid : Prop := codeErrorsRow.holds Tryd.pinned (OpenSpec.ofChange codeErrorsSpec)

/-- ITS FALSE NEIGHBOUR: 'it returns false'. Refute it at one input. -/
def codeErrorsWrong : ChangeSpec := { name := "codeErrors", fn := fun _ => fun
  | [d1, d2] => { results := [.lit (.bool false)], args := [d1, d2] }
  | _ => none }
def CodeErrorsWrongFalsely : Prop := codeErrorsRow.holds Tryd.pinned (OpenSpec.ofChange codeErrorsWrong)

/-- 'wharfingerlaw03.CodeStands': WHATEVER THE INPUT: true; the input reads as it did. -/
def codeStandsSpec : ChangeSpec := { name := "codeStands", fn := fun _ => fun
  | [d1, d2] => { results := [.lit (.bool true)], args := [d1, d2] }
  | _ => none }
def codeStandsRow : OpenClaim := { program := "ytjojckdoocbelaadoor", sum := "61d1ffa2fd5e38060ea790e5bec078b3d0b015a55b3cce2cb3850152b48eace2", func := "wharfinger/wharfingerlaw03.CodeStands", spec := "codeStands", inPlace := ["internal/reflectlite.ValueOf", "(internal/reflectlite.Value).Type", "(internal/reflectlite.Value).IsNil", "internal/reflectlite.TypeOf", "(internal/reflectlite.Value).Elem", "(internal/reflectlite.Value).Set"], unfollowed := true, recurses := true, named := ["errors.errorType"], apart := false, laid := [("errors.errorType", laid_errors_errorType)] }
def CodeStandsSaid : Prop := codeStandsRow.holds Tryd.pinned (OpenSpec.ofChange codeStandsSpec)

/-- ITS FALSE NEIGHBOUR: 'it returns false'. Refute it at one input. -/
def codeStandsWrong : ChangeSpec := { name := "codeStands", fn := fun _ => fun
  | [d1, d2] => { results := [.lit (.bool false)], args := [d1, d2] }
  | _ => none }
def CodeStandsWrongFalsely : Prop := codeStandsRow.holds Tryd.pinned (OpenSpec.ofChange codeStandsWrong)

/-- 'wharfingerlaw03.CodeLong': WHATEVER THE INPUT: true; the input reads as it did. -/
def codeLongSpec : ChangeSpec := { name := "codeLong", fn := fun _ => fun
  | [d1, d2] => { results := [.lit (.bool true)], args := [d1, d2] }
  | _ => none }
def codeLongRow : OpenClaim := { program := "ytjojckdoocbelaadoor", sum := "61d1ffa2fd5e38060ea790e5bec078b3d0b015a55b3cce2cb3850152b48eace2", func := "wharfinger/wharfingerlaw03.CodeLong", spec := "codeLong", inPlace := ["slices.overlaps[byte]", "internal/reflectlite.ValueOf", "(internal/reflectlite.Value).Type", "(internal/reflectlite.Value).IsNil", "internal/reflectlite.TypeOf", "(internal/reflectlite.Value).Elem", "(internal/reflectlite.Value).Set"], unfollowed := true, recurses := true, named := ["errors.errorType"], apart := false, laid := [("errors.errorType", laid_errors_errorType)] }
def CodeLongSaid : Prop := codeLongRow.holds Tryd.pinned (OpenSpec.ofChange codeLongSpec)

/-- ITS FALSE NEIGHBOUR: 'it returns false'. Refute it at one input. -/
def codeLongWrong : ChangeSpec := { name := "codeLong", fn := fun _ => fun
  | [d1, d2] => { results := [.lit (.bool false)], args := [d1, d2] }
  | _ => none }
def CodeLongWrongFalsely : Prop := codeLongRow.holds Tryd.pinned (OpenSpec.ofChange codeLongWrong)

/- THE SECOND FORM. 'bulk': how many values and letters a reading holds, each counted each time it is reached (what is shared counts as often as it is met; a slice's spare places count too). A statement '..UptoSaid' is the law's where the arguments, and the package variables that the reading takes, are together of bulk at most 1048576: NARROWER than '..Said'. Prove '..Said' where nothing that the law and all that it calls make is longer than what came in: it says more and counts as full. Else prove '..UptoSaid'. A law counts once. -/
mutual
def uptoBulk {H : Type} : DataW H → Nat
  | .lit (.string bytes) => bytes.length + 1
  | .lit _ => 1
  | .nil => 1
  | .ptr d => uptoBulk d + 1
  | .slice elems spare => uptoBulkAll elems + uptoBulkAll spare + 1
  | .agg parts => uptoBulkAll parts + 1
  | .iface _ d => uptoBulk d + 1
  | .map entries => uptoBulkEntries entries + 1
  | .held _ => 1
def uptoBulkAll {H : Type} : List (DataW H) → Nat
  | [] => 0
  | d :: r => uptoBulk d + uptoBulkAll r
def uptoBulkEntries {H : Type} : List (Lit × DataW H) → Nat
  | [] => 0
  | x :: r => uptoBulkEntry x + uptoBulkEntries r
def uptoBulkEntry {H : Type} : Lit × DataW H → Nat
  | (.string bytes, d) => bytes.length + uptoBulk d + 1
  | (_, d) => uptoBulk d + 1
 end
def uptoSmall : (H : Type) → List (DataW H) → Bool := fun _ ds => decide (uptoBulkAll ds ≤ 1048576)
def OpenSpec.upto (s : _root_.Go.ChangeSpec) : _root_.Go.OpenSpec := { _root_.Go.OpenSpec.ofChange s with cond := some uptoSmall }

/-- 'wharfingerlaw01.SumOf', WHERE WHAT IT READS IS OF BULK AT MOST 1048576: true; the input reads as it did. -/
def sumOfUptoRow : OpenClaim := { program := "ytjojckdoocbelaadoor", sum := "61d1ffa2fd5e38060ea790e5bec078b3d0b015a55b3cce2cb3850152b48eace2", func := "wharfinger/wharfingerlaw01.SumOf", spec := "sumOf", named := ["wharfinger/sum.firstState", "wharfinger/sum.roundWords"], apart := false, laid := [("wharfinger/sum.firstState", laid_wharfinger_sum_firstState), ("wharfinger/sum.roundWords", laid_wharfinger_sum_roundWords)], narrowed := true }
def SumOfUptoSaid : Prop := sumOfUptoRow.holds Tryd.pinned (OpenSpec.upto sumOfSpec)

/-- 'wharfingerlaw01.SumCut', WHERE WHAT IT READS IS OF BULK AT MOST 1048576: true; the input reads as it did. -/
def sumCutUptoRow : OpenClaim := { program := "ytjojckdoocbelaadoor", sum := "61d1ffa2fd5e38060ea790e5bec078b3d0b015a55b3cce2cb3850152b48eace2", func := "wharfinger/wharfingerlaw01.SumCut", spec := "sumCut", named := ["wharfinger/sum.firstState", "wharfinger/sum.roundWords"], apart := false, laid := [("wharfinger/sum.firstState", laid_wharfinger_sum_firstState), ("wharfinger/sum.roundWords", laid_wharfinger_sum_roundWords)], narrowed := true }
def SumCutUptoSaid : Prop := sumCutUptoRow.holds Tryd.pinned (OpenSpec.upto sumCutSpec)

/-- 'wharfingerlaw01.SumMac', WHERE WHAT IT READS IS OF BULK AT MOST 1048576: true; the input reads as it did. -/
def sumMacUptoRow : OpenClaim := { program := "ytjojckdoocbelaadoor", sum := "61d1ffa2fd5e38060ea790e5bec078b3d0b015a55b3cce2cb3850152b48eace2", func := "wharfinger/wharfingerlaw01.SumMac", spec := "sumMac", named := ["wharfinger/sum.firstState", "wharfinger/sum.roundWords"], apart := false, laid := [("wharfinger/sum.firstState", laid_wharfinger_sum_firstState), ("wharfinger/sum.roundWords", laid_wharfinger_sum_roundWords)], narrowed := true }
def SumMacUptoSaid : Prop := sumMacUptoRow.holds Tryd.pinned (OpenSpec.upto sumMacSpec)

/-- 'wharfingerlaw01.SumEnds', WHERE WHAT IT READS IS OF BULK AT MOST 1048576: true; the input reads as it did. -/
def sumEndsUptoRow : OpenClaim := { program := "ytjojckdoocbelaadoor", sum := "61d1ffa2fd5e38060ea790e5bec078b3d0b015a55b3cce2cb3850152b48eace2", func := "wharfinger/wharfingerlaw01.SumEnds", spec := "sumEnds", named := ["wharfinger/sum.firstState", "wharfinger/sum.roundWords"], apart := false, laid := [("wharfinger/sum.firstState", laid_wharfinger_sum_firstState), ("wharfinger/sum.roundWords", laid_wharfinger_sum_roundWords)], narrowed := true }
def SumEndsUptoSaid : Prop := sumEndsUptoRow.holds Tryd.pinned (OpenSpec.upto sumEndsSpec)

/-- 'wharfingerlaw01.SumKeys', WHERE WHAT IT READS IS OF BULK AT MOST 1048576: true; the input reads as it did. -/
def sumKeysUptoRow : OpenClaim := { program := "ytjojckdoocbelaadoor", sum := "61d1ffa2fd5e38060ea790e5bec078b3d0b015a55b3cce2cb3850152b48eace2", func := "wharfinger/wharfingerlaw01.SumKeys", spec := "sumKeys", named := ["wharfinger/sum.firstState", "wharfinger/sum.roundWords"], apart := false, laid := [("wharfinger/sum.firstState", laid_wharfinger_sum_firstState), ("wharfinger/sum.roundWords", laid_wharfinger_sum_roundWords)], narrowed := true }
def SumKeysUptoSaid : Prop := sumKeysUptoRow.holds Tryd.pinned (OpenSpec.upto sumKeysSpec)

/-- 'wharfingerlaw03.CodeReads', WHERE WHAT IT READS IS OF BULK AT MOST 1048576: true; the input reads as it did. -/
def codeReadsUptoRow : OpenClaim := { program := "ytjojckdoocbelaadoor", sum := "61d1ffa2fd5e38060ea790e5bec078b3d0b015a55b3cce2cb3850152b48eace2", func := "wharfinger/wharfingerlaw03.CodeReads", spec := "codeReads", inPlace := ["internal/reflectlite.ValueOf", "(internal/reflectlite.Value).Type", "(internal/reflectlite.Value).IsNil", "internal/reflectlite.TypeOf", "(internal/reflectlite.Value).Elem", "(internal/reflectlite.Value).Set"], unfollowed := true, recurses := true, named := ["errors.errorType"], apart := false, laid := [("errors.errorType", laid_errors_errorType)], narrowed := true }
def CodeReadsUptoSaid : Prop := codeReadsUptoRow.holds Tryd.pinned (OpenSpec.upto codeReadsSpec)

/-- 'wharfingerlaw03.CodeBack', WHERE WHAT IT READS IS OF BULK AT MOST 1048576: true; the input reads as it did. -/
def codeBackUptoRow : OpenClaim := { program := "ytjojckdoocbelaadoor", sum := "61d1ffa2fd5e38060ea790e5bec078b3d0b015a55b3cce2cb3850152b48eace2", func := "wharfinger/wharfingerlaw03.CodeBack", spec := "codeBack", inPlace := ["slices.overlaps[byte]", "internal/reflectlite.ValueOf", "(internal/reflectlite.Value).Type", "(internal/reflectlite.Value).IsNil", "internal/reflectlite.TypeOf", "(internal/reflectlite.Value).Elem", "(internal/reflectlite.Value).Set"], unfollowed := true, recurses := true, named := ["errors.errorType"], apart := false, laid := [("errors.errorType", laid_errors_errorType)], narrowed := true }
def CodeBackUptoSaid : Prop := codeBackUptoRow.holds Tryd.pinned (OpenSpec.upto codeBackSpec)

/-- 'wharfingerlaw03.CodeErrors', WHERE WHAT IT READS IS OF BULK AT MOST 1048576: true; the input reads as it did. -/
def codeErrorsUptoRow : OpenClaim := { program := "ytjojckdoocbelaadoor", sum := "61d1ffa2fd5e38060ea790e5bec078b3d0b015a55b3cce2cb3850152b48eace2", func := "wharfinger/wharfingerlaw03.CodeErrors", spec := "codeErrors", inPlace := ["internal/reflectlite.ValueOf", "(internal/reflectlite.Value).Type", "(internal/reflectlite.Value).IsNil", "internal/reflectlite.TypeOf", "(internal/reflectlite.Value).Elem", "(internal/reflectlite.Value).Set"], unfollowed := true, recurses := true, named := ["errors.errorType"], apart := false, laid := [("errors.errorType", laid_errors_errorType)], narrowed := true }
def CodeErrorsUptoSaid : Prop := codeErrorsUptoRow.holds Tryd.pinned (OpenSpec.upto codeErrorsSpec)

/-- 'wharfingerlaw03.CodeStands', WHERE WHAT IT READS IS OF BULK AT MOST 1048576: true; the input reads as it did. -/
def codeStandsUptoRow : OpenClaim := { program := "ytjojckdoocbelaadoor", sum := "61d1ffa2fd5e38060ea790e5bec078b3d0b015a55b3cce2cb3850152b48eace2", func := "wharfinger/wharfingerlaw03.CodeStands", spec := "codeStands", inPlace := ["internal/reflectlite.ValueOf", "(internal/reflectlite.Value).Type", "(internal/reflectlite.Value).IsNil", "internal/reflectlite.TypeOf", "(internal/reflectlite.Value).Elem", "(internal/reflectlite.Value).Set"], unfollowed := true, recurses := true, named := ["errors.errorType"], apart := false, laid := [("errors.errorType", laid_errors_errorType)], narrowed := true }
def CodeStandsUptoSaid : Prop := codeStandsUptoRow.holds Tryd.pinned (OpenSpec.upto codeStandsSpec)

/-- 'wharfingerlaw03.CodeLong', WHERE WHAT IT READS IS OF BULK AT MOST 1048576: true; the input reads as it did. -/
def codeLongUptoRow : OpenClaim := { program := "ytjojckdoocbelaadoor", sum := "61d1ffa2fd5e38060ea790e5bec078b3d0b015a55b3cce2cb3850152b48eace2", func := "wharfinger/wharfingerlaw03.CodeLong", spec := "codeLong", inPlace := ["slices.overlaps[byte]", "internal/reflectlite.ValueOf", "(internal/reflectlite.Value).Type", "(internal/reflectlite.Value).IsNil", "internal/reflectlite.TypeOf", "(internal/reflectlite.Value).Elem", "(internal/reflectlite.Value).Set"], unfollowed := true, recurses := true, named := ["errors.errorType"], apart := false, laid := [("errors.errorType", laid_errors_errorType)], narrowed := true }
def CodeLongUptoSaid : Prop := codeLongUptoRow.holds Tryd.pinned (OpenSpec.upto codeLongSpec)

end Rows
end Go.Proofs.YtjojckdoocbelaaDoor
