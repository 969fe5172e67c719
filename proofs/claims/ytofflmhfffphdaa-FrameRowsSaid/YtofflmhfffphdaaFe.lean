/- The frame laws' first look. -/
import Derived.Test.YtofflmhfffphdaaFb
import Derived.Test.YtofflmhfffphdaaFd
import Derived.Test.YtofflmhfffphdaaBs
import Derived.Test.YtofflmhfffphdaaRm
import Derived.Lib.SlBytesConst
namespace Go.Proofs.Ytofflmhfffphdaa.Fe
set_option linter.unusedVariables false
set_option linter.unusedSimpArgs false
set_option maxRecDepth 100000
open Go.ChangeShapes Go.WideShapes Go.ChangeAt Go.RowKit
open Go.Proofs.Ytofflmhfffphdaa.Wu Go.Proofs.Ytofflmhfffphdaa.Sm Go.Proofs.Ytofflmhfffphdaa.Sh Go.Proofs.Ytofflmhfffphdaa.Ba Go.Proofs.Ytofflmhfffphdaa.Bp Go.Proofs.Ytofflmhfffphdaa.Bq Go.Proofs.Ytofflmhfffphdaa.Bz Go.Proofs.Ytofflmhfffphdaa.Cm Go.Proofs.Ytofflmhfffphdaa.Cn Go.Proofs.Ytofflmhfffphdaa.Cr Go.Proofs.Ytofflmhfffphdaa.Cs Go.Proofs.Ytofflmhfffphdaa.Rk Go.Proofs.Ytofflmhfffphdaa.Ct Go.Proofs.Ytofflmhfffphdaa.Bs Go.Proofs.Ytofflmhfffphdaa.Rm Go.Proofs.Ytofflmhfffphdaa.Fa Go.Proofs.Ytofflmhfffphdaa.Fb Go.Proofs.Ytofflmhfffphdaa.Fc Go.Proofs.Ytofflmhfffphdaa.Fd
attribute [local go_sem] kUpon_value kUpon_skip kUpon_enter
theorem num1 : frL 3 2 [120] = [26, 1, 120] := by
  unfold frL
  rw [show ([120] : List Nat).length = 1 from rfl, numL_small 1 (by omega)]
  rfl
theorem str1 : strN [26, 1, 120] = ⟨#[26, 1, 120]⟩ := by kernel_rfl
theorem str2 : strN [120] = ⟨#[120]⟩ := by kernel_rfl
set_option maxHeartbeats 1600000 in
set_option maxRecDepth 100000 in
theorem reads_c (w : World) : Calls Try.prog 4 #[] w fun e w' => e = .returned (.bool true) ∧ Below w.heap.size w w' := by
  go_enter Try.func4, Try.ntmps4
  go_wp2_with fail
  rw [Lib.run_convert_bytes_const (P := Try.prog) w 24 5 #[.int .u8 120] 1 1 Try.underlying24 Try.underlying5]
  have HS1 := hide (src_one (heap_last w (.cells #[.int .u8 ((120 : Nat) : Int)] 5 ((#[.int .u8 120] : Array Value).size, (#[.int .u8 120] : Array Value).size + 1))) (by omega))
  have HB1 := hide (below_new w (.cells #[.int .u8 ((120 : Nat) : Int)] 5 ((#[.int .u8 120] : Array Value).size, (#[.int .u8 120] : Array Value).size + 1)))
  have hz1 : w.heap.size < (w.alloc (.cells #[.int .u8 ((120 : Nat) : Int)] 5 ((#[.int .u8 120] : Array Value).size, (#[.int .u8 120] : Array Value).size + 1))).heap.size := by simp
  generalize w.alloc (.cells #[.int .u8 ((120 : Nat) : Int)] 5 ((#[.int .u8 120] : Array Value).size, (#[.int .u8 120] : Array Value).size + 1)) = w1 at *
  go_wp2_with fail
  refine (append_nil 3 2 (some ⟨w.heap.size, 0, none⟩) 1 1 [120] w1 HS1.out (fun h => by cases h) (by omega) (by omega) (by omega) (by omega) (by omega)).mono ?_
  rintro e w2 ⟨v, rfl, hb, hB⟩
  rw [num1] at hb
  rcases hb with ⟨_, h⟩ | ⟨g, cap, rfl, hg, hd⟩
  · cases h
  have HB2 := hide (HB1.out.trans (hB.mono (Nat.le_of_lt hz1)))
  have HD2 := hide hd
  clear hB hd HS1 HB1
  go_wp2_with fail
  have hmx := HD2.out.max
  unfold maxLen at hmx
  have hft := HD2.out.fit
  have hsrc : SrcB w2 (some ⟨g, 0, none⟩) 3 (frL 3 2 [120] ++ []) := by rw [List.append_nil, num1]; exact HD2.out.src
  refine (read_ok 3 2 [120] ⟨g, 0, none⟩ 3 cap [] w2 hsrc (by simpa using hft) (by omega) (by omega) (by omega) (by omega) (by simp)).mono ?_
  clear hsrc
  rintro e w3 ⟨g3, cap3, rfl, hg3, hd3, hb3⟩
  rw [num1]
  have HB3 := hide (keepB hb3 (Nat.le_refl _) HB2.out)
  have HV1 := hide (fun (u : World) (hu : Below w3.heap.size w3 u) => conv_src (cap := cap) ((HD2.out.below hb3 HD2.out.lt).src.below hu))
  have HV2 := hide (fun (u : World) (hu : Below w3.heap.size w3 u) => conv_src (cap := cap3) (hd3.src.below hu))
  rw [str1] at HV1
  rw [str2] at HV2
  simp only [List.length_cons, List.length_nil, Nat.zero_add, Nat.reduceAdd] at HV1 HV2
  clear hd3 hb3
  go_wp2_with fail
  rw [HV1.out _ (below_new w3 _)]
  go_wp2_with fail
  rw [HV2.out _ (below_new w3 _)]
  go_wp2
  go_ret
  exact ⟨rfl, keepB (below_new w3 _) (Nat.le_refl _) HB3.out⟩
end Go.Proofs.Ytofflmhfffphdaa.Fe
