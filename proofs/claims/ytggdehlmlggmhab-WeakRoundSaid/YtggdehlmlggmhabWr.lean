/- The head of every statement of layer 2: 'rolls' answers true. -/
import Derived.Test.YtggdehlmlggmhabWc
import Derived.Lib.SlBytesConst
import Derived.Deep.RegionHeld3
import Derived.Deep.RegionWith
import Derived.LoopN
namespace Go.Proofs.Ytggdehlmlggmhab.Wr
set_option linter.unusedVariables false
set_option linter.unusedSimpArgs false
open Go.ChangeShapes Go.WideShapes Go.ChangeAt Go.RowKit
open Go.Proofs.Ytggdehlmlggmhab.Wm Go.Proofs.Ytggdehlmlggmhab.Wu Go.Proofs.Ytggdehlmlggmhab.Wk Go.Proofs.Ytggdehlmlggmhab.Wc

set_option maxHeartbeats 20000000 in
theorem rolls_true (w : World) : Calls Try.prog 4 #[] w fun e w' => e = .returned (.bool true) ∧ Below w.heap.size w w' := by
  have kc := fun (w : World) (C : Array Value) (n c : Nat) => Lib.run_convert_bytes_const (P := Try.prog) w 22 5 C n c Try.underlying22 Try.underlying5
  go_enter Try.func4, Try.ntmps4
  go_wp2_with fail
  refine (of_abc _ _ _ _ _ (heap_last _ _)).mono ?_
  rintro e w1 ⟨rfl, hb1⟩
  have B1 := hide (((Below.refl _ w).alloc (Nat.le_refl _) _).trans (hb1.mono (by simp)))
  clear hb1
  go_wp2_with fail
  refine (roll_abc _).mono ?_
  rintro e w2 ⟨rfl, hb2⟩
  have B2 := hide ((B1.out.alloc B1.out.size _).trans (hb2.mono (by have := B1.out.size; simp; omega)))
  have c1 := hide (below_blk hb2 (by simp) (heap_last _ _))
  clear hb2
  go_wp2_with fail
  have d1 := blk3 (heap_old c1.out (.cells #[.int .i64 3, .int .u16 297, .int .u16 592] 26))
  have d2 := blk3 (heap_last w2 (.cells #[.int .i64 3, .int .u16 297, .int .u16 592] 26))
  have d3 := B2.out.alloc B2.out.size (.cells #[.int .i64 3, .int .u16 297, .int .u16 592] 26)
  generalize (w2.alloc (Obj.cells #[Value.int IntKind.i64 3, Value.int IntKind.u16 297, Value.int IntKind.u16 592] 26)) = W at *
  generalize w1.heap.size = b1 at *
  generalize w2.heap.size = b2 at *
  obtain ⟨e1, e2, e3, -⟩ := d1
  obtain ⟨e4, e5, e6, -⟩ := d2
  clear c1 B1 B2
  have hk : W.cell? ⟨b1, 0, none⟩ = some (.int .i64 3) ∧ W.cell? ⟨b1, 1, none⟩ = some (.int .u16 294) ∧ W.cell? ⟨b1, 2, none⟩ = some (.int .u16 586) ∧ W.cell? ⟨b2, 0, none⟩ = some (.int .i64 3) ∧ W.cell? ⟨b2, 1, none⟩ = some (.int .u16 297) ∧ W.cell? ⟨b2, 2, none⟩ = some (.int .u16 592) ∧ Below w.heap.size w W := ⟨e1, e2, e3, e4, e5, e6, d3⟩
  have hkd : W.drew.cell? ⟨b1, 0, none⟩ = some (.int .i64 3) ∧ W.drew.cell? ⟨b1, 1, none⟩ = some (.int .u16 294) ∧ W.drew.cell? ⟨b1, 2, none⟩ = some (.int .u16 586) ∧ W.drew.cell? ⟨b2, 0, none⟩ = some (.int .i64 3) ∧ W.drew.cell? ⟨b2, 1, none⟩ = some (.int .u16 297) ∧ W.drew.cell? ⟨b2, 2, none⟩ = some (.int .u16 592) ∧ Below w.heap.size w W.drew := ⟨e1, e2, e3, e4, e5, e6, d3.drew⟩
  have l1 := cell_lt e1
  have l2 := cell_lt e4
  clear e1 e2 e3 e4 e5 e6 d3
  simp only at l1 l2
  go_region_with (first
      | (go_at_call 7; refine (value_any _ _ _ _ (by omega) (by omega) (by omega) (by omega)).mono ?_; rintro e u ⟨rfl, hu⟩; have hku := keep6 hu (Nat.le_refl _) (by assumption); have nu1 : b1 < u.heap.size := cell_lt hku.1; have nu2 : b2 < u.heap.size := cell_lt hku.2.2.2.1; clear hu)
      | (go_at_call 8; refine (size_any _ _ _ _).mono ?_; rintro e u ⟨rfl, hu⟩; have hku := keep6 hu (Nat.le_refl _) (by assumption); have nu1 : b1 < u.heap.size := cell_lt hku.1; have nu2 : b2 < u.heap.size := cell_lt hku.2.2.2.1; clear hu)
      | (go_at_call 5; refine (of_bcd _ _ _ _ _ (heap_last _ _)).mono ?_; rintro e u ⟨rfl, hu⟩; have hku := keep6 ((below_new _ _).trans (hu.mono (by simp))) (Nat.le_refl _) (by assumption); clear hu))
  all_goals go_wp2
  all_goals (go_ret; refine ⟨rfl, ?_⟩; first | exact six_below (by assumption) | exact (six_below (by assumption)).drew)
end Go.Proofs.Ytggdehlmlggmhab.Wr
