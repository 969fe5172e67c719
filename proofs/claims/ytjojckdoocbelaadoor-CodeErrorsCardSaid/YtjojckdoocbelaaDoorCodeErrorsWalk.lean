/- CodeErrors' walk. -/
import Derived.Test.YtjojckdoocbelaaDoorCl
import Derived.Test.YtjojckdoocbelaaDoorEi
namespace Go.Proofs.YtjojckdoocbelaaDoor.CodeErrorsW
set_option linter.unusedVariables false
set_option linter.unusedSimpArgs false
set_option maxRecDepth 100000
open Go.ChangeShapes Go.WideShapes Go.ChangeAt Go.RowKit
open Go.Proofs.YtjojckdoocbelaaDoor.Wu Go.Proofs.YtjojckdoocbelaaDoor.Er Go.Proofs.YtjojckdoocbelaaDoor.Eu Go.Proofs.YtjojckdoocbelaaDoor.Ei Go.Proofs.YtjojckdoocbelaaDoor.Cl
theorem errF {w : World} {b : Nat} {p n : Int} {T : TypeId} {f : Nat × Nat} (h : w.heap[b]? = some (.cells #[.int .i64 p, .int .i64 n] T f)) : IsErr w (.iface 66 (.pointer (some ⟨b, 0, none⟩))) n p := .inr (.inr ⟨b, T, f, rfl, h⟩)
set_option maxHeartbeats 1600000 in
theorem walk (at_ e : Int) (w : World) (he : Et w) : Calls Tryd.prog 10 #[.int .i64 at_, .int .i64 e] w fun e w' => e = .returned (.bool true) ∧ Below w.heap.size w w' := by
  have HC := hide (reads_c w)
  have HE := hide he
  clear he
  go_enter Tryd.func10, Tryd.ntmps10
  go_wp2_with fail
  refine HC.out.mono ?_
  rintro e w1 ⟨rfl, hb⟩
  have HB0 := hide hb
  clear hb HC
  have HB := hide (HB0.out.alloc HB0.out.size (.cells #[.int .i64 at_, .int .i64 e] 68))
  have HF := hide (heap_last w1 (.cells #[.int .i64 at_, .int .i64 e] 68))
  have HX := hide (HE.out.below HB.out (Nat.le_refl _))
  go_wp2_with fail
  generalize w1.alloc (.cells #[.int .i64 at_, .int .i64 e] 68) = w2 at *
  generalize w1.heap.size = g at *
  refine (number_c _ e at_ w2 (errF HF.out) HX.out).mono ?_
  rintro e w3 ⟨rfl, hb⟩
  have HB3 := hide (keepB hb (Nat.le_refl _) HB.out)
  have HF3 := hide (below_blk hb (heap_lt HF.out) HF.out)
  have HX3 := hide (HE.out.below HB3.out (Nat.le_refl _))
  clear hb HB HF HX HB0
  go_wp2_with fail
  refine (place_c _ e at_ w3 (errF HF3.out) HX3.out).mono ?_
  rintro e w4 ⟨rfl, hb⟩
  have HB4 := hide (keepB hb (Nat.le_refl _) HB3.out)
  have HF4 := hide (below_blk hb (heap_lt HF3.out) HF3.out)
  have HX4 := hide (HE.out.below HB4.out (Nat.le_refl _))
  clear hb HB3 HF3 HX3
  go_wp2_with fail
  refine (is_FE g at_ e e true (by simp) _ _ w4 HF4.out).mono ?_
  rintro e w5 ⟨rfl, rfl⟩
  go_wp2_with fail
  refine (number_c _ e (-1) w5 (.inr (.inl ⟨rfl, rfl⟩)) HX4.out).mono ?_
  rintro e w6 ⟨rfl, hb⟩
  have HB6 := hide (keepB hb (Nat.le_refl _) HB4.out)
  have HX6 := hide (HE.out.below HB6.out (Nat.le_refl _))
  clear hb HB4 HF4 HX4
  go_wp2_with fail
  refine (place_c _ e (-1) w6 (.inr (.inl ⟨rfl, rfl⟩)) HX6.out).mono ?_
  rintro e w7 ⟨rfl, hb⟩
  have HB7 := hide (keepB hb (Nat.le_refl _) HB6.out)
  have HX7 := hide (HE.out.below HB7.out (Nat.le_refl _))
  clear hb HB6 HX6
  go_wp2_with fail
  refine (number_c _ 0 (-1) w7 (.inl ⟨rfl, rfl, rfl⟩) HX7.out).mono ?_
  rintro e w8 ⟨rfl, hb⟩
  have HB8 := hide (keepB hb (Nat.le_refl _) HB7.out)
  have HX8 := hide (HE.out.below HB8.out (Nat.le_refl _))
  clear hb HB7 HX7
  go_wp2_with fail
  refine (place_c _ 0 (-1) w8 (.inl ⟨rfl, rfl, rfl⟩) HX8.out).mono ?_
  rintro e w9 ⟨rfl, hb⟩
  have HB9 := hide (keepB hb (Nat.le_refl _) HB8.out)
  clear hb HB8 HX8
  go_wp2
  go_ret
  exact ⟨rfl, HB9.out⟩
end Go.Proofs.YtjojckdoocbelaaDoor.CodeErrorsW
