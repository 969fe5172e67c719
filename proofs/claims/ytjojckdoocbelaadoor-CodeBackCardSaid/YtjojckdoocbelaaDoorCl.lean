/- The laws' first look at code: reads. -/
import Derived.Test.YtjojckdoocbelaaDoorCt
import Derived.Test.YtjojckdoocbelaaDoorBs
namespace Go.Proofs.YtjojckdoocbelaaDoor.Cl
set_option linter.unusedVariables false
set_option linter.unusedSimpArgs false
set_option maxRecDepth 100000
open Go.ChangeShapes Go.WideShapes Go.ChangeAt Go.RowKit
open Go.Proofs.YtjojckdoocbelaaDoor.Wu Go.Proofs.YtjojckdoocbelaaDoor.Sm Go.Proofs.YtjojckdoocbelaaDoor.Sh Go.Proofs.YtjojckdoocbelaaDoor.Ba Go.Proofs.YtjojckdoocbelaaDoor.Bp Go.Proofs.YtjojckdoocbelaaDoor.Bq Go.Proofs.YtjojckdoocbelaaDoor.Cm Go.Proofs.YtjojckdoocbelaaDoor.Cn Go.Proofs.YtjojckdoocbelaaDoor.Cr Go.Proofs.YtjojckdoocbelaaDoor.Cs Go.Proofs.YtjojckdoocbelaaDoor.Rk Go.Proofs.YtjojckdoocbelaaDoor.Ct Go.Proofs.YtjojckdoocbelaaDoor.Bs
attribute [local go_sem] kUpon_value kUpon_skip kUpon_enter
theorem num300 : numL 300 = [172, 2] := by rw [numL_big 300 (by omega), numL_small 2 (by omega)]
theorem str300 : strN [172, 2] = ⟨#[172, 2]⟩ := by kernel_rfl
set_option maxHeartbeats 1600000 in
theorem reads_c (w : World) : Calls Tryd.prog 21 #[] w fun e w' => e = .returned (.bool true) ∧ Below w.heap.size w w' := by
  have H300 := hide (num_c (.slice none 0 0) w.heap.size [] 300 w (Or.inl ⟨rfl, rfl⟩) (Nat.le_refl _) (by omega) (by simp))
  go_enter Tryd.func21, Tryd.ntmps21
  go_wp2_with fail
  refine H300.out.mono ?_
  rintro e w1 ⟨v, rfl, hb, hB⟩
  clear H300
  rw [num300] at hb
  obtain ⟨a, cap, rfl, hs, hcap, hmax, -⟩ := hb.form
  have hN : w.heap.size ≤ w1.heap.size := hB.size
  have HS := hide hs
  have HB := hide hB
  have HBf := hide hb
  clear hs hB hb
  go_wp2_with fail
  refine (read_c a 2 cap w1).mono ?_
  rintro e w2 ⟨rfl, rfl⟩
  have HS2 := hide (HS.out.below (below_new w1 (.cells #[.slice a 2 cap, .int .i64 0, .int .i64 0, .int .i64 0] 87)))
  have HR2 : Hid (Rd _ w1.heap.size a 2 cap ((0 : Nat) : Int) 0 0) := hide (heap_last w1 (.cells #[.slice a 2 cap, .int .i64 0, .int .i64 0, .int .i64 0] 87))
  have HB2 := hide (HB.out.alloc hN (.cells #[.slice a 2 cap, .int .i64 0, .int .i64 0, .int .i64 0] 87))
  have hz2 : w.heap.size ≤ (w1.alloc (.cells #[.slice a 2 cap, .int .i64 0, .int .i64 0, .int .i64 0] 87)).heap.size := by simp; omega
  generalize w1.alloc (.cells #[.slice a 2 cap, .int .i64 0, .int .i64 0, .int .i64 0] 87) = w2 at *
  have HV : Hid (Sem.run Tryd.prog (convert 31 9 (.slice a 2 cap)) w2 = .ok (.string (strN [172, 2])) w2) := hide (conv_src HS2.out)
  go_wp2_with fail
  rw [HV.out, str300]
  go_wp2_with fail
  refine (num_ok w1.heap.size a 2 cap 0 [172, 2] 0 w2 300 2 HR2.out HS2.out (by omega) hcap (by omega) (by kernel_rfl) (by omega)).mono ?_
  rintro e w3 ⟨rfl, hr, hg⟩
  have HR3 := hide hr
  have HB3 := hide (belowG HB2.out hg hN (hz2))
  clear hr hg
  go_wp2_with fail
  refine (end_ok w1.heap.size a 2 cap 0 w3 HR3.out).mono ?_
  rintro e w4 ⟨rfl, k, rfl⟩
  have HB4 := hide (below_drewN HB3.out k)
  go_wp2
  go_ret
  exact ⟨rfl, HB4.out⟩
end Go.Proofs.YtjojckdoocbelaaDoor.Cl
