/- Blocks built, and laid into a slice of one. -/
import Derived.Test.YtheambpddpfcfaaDoorKd
import Derived.Test.YtheambpddpfcfaaDoorRb1
namespace Go.Proofs.YtheambpddpfcfaaDoor.Kg
set_option linter.unusedVariables false
set_option linter.unusedSimpArgs false
set_option maxRecDepth 100000
open Go.ChangeShapes Go.WideShapes Go.ChangeAt Go.RowKit
open Go.Proofs.YtheambpddpfcfaaDoor.Wu Go.Proofs.YtheambpddpfcfaaDoor.Sm Go.Proofs.YtheambpddpfcfaaDoor.Sh Go.Proofs.YtheambpddpfcfaaDoor.Ba Go.Proofs.YtheambpddpfcfaaDoor.Bp Go.Proofs.YtheambpddpfcfaaDoor.Ka Go.Proofs.YtheambpddpfcfaaDoor.Kb Go.Proofs.YtheambpddpfcfaaDoor.Kc Go.Proofs.YtheambpddpfcfaaDoor.Kd Go.Proofs.YtheambpddpfcfaaDoor.Rb1
theorem fill_blk (q : IntKind) (x : Nat) (s : List Nat) (hs : s.length = 32) : Instr.fill (([(0, 1), (1, 32)] : List (Nat × Nat)).toArray[·]?) (blkC q ⟨0, zeros 32⟩).toArray [(0, .int q (x : Int)), (1, .agg (u8s s))] = some (blkC q ⟨x, s⟩).toArray := by
  have h0 : (blkC q ⟨0, zeros 32⟩).length = 33 := by simp [blkC, b8_length, zeros_length]
  rw [fill_step _ _ [.int q (x : Int)] 0 0 1 _ _ rfl rfl rfl (by omega)]
  have h1 : (spl (blkC q ⟨0, zeros 32⟩) 0 [.int q (x : Int)]).length = 33 := by rw [spl_length _ _ _ (by simp; omega)]; exact h0
  rw [fill_step _ _ (b8 s) 1 1 32 _ _ rfl (by rw [← u8s_b8]; rfl) (by rw [b8_length, hs]) (by omega), fill_nil]
  congr 2
  simp [spl, blkC, b8_length, hs, zeros_length]
theorem zero_blk : (Tryd.prog.info? 63).bind (·.zero) = some (blkV .u32 ⟨0, zeros 32⟩) := by kernel_rfl
theorem zero_ref : (Tryd.prog.info? 111).bind (·.zero) = some (blkV .i64 ⟨0, zeros 32⟩) := by kernel_rfl
theorem built_blk (x : Nat) (s : List Nat) (hs : s.length = 32) : Tryd.prog.built 63 [(0, .int .u32 (x : Int)), (1, .agg (u8s s))] = some (blkC .u32 ⟨x, s⟩).toArray :=
  built_struct 63 _ _ _ [(0, 1), (1, 32)] (blkC .u32 ⟨0, zeros 32⟩) zero_blk Tryd.underlying63 (by kernel_rfl) rfl _ (fill_blk .u32 x s hs)
theorem built_ref (x : Nat) (s : List Nat) (hs : s.length = 32) : Tryd.prog.built 111 [(0, .int .i64 (x : Int)), (1, .agg (u8s s))] = some (blkC .i64 ⟨x, s⟩).toArray :=
  built_struct 111 _ _ _ [(0, 1), (1, 32)] (blkC .i64 ⟨0, zeros 32⟩) zero_ref Tryd.underlying111 (by kernel_rfl) rfl _ (fill_blk .i64 x s hs)
theorem one_blk (u : World) (b : Blk) (hb : b.ok) : (Instr.buildSlice 24 1 #[(0, blkV .u32 b)]).run Tryd.prog u = .ok (.slice (some ⟨u.heap.size, 0, none⟩) 1 1) (u.alloc (.cells (blkC .u32 b).toArray 63)) := by
  obtain ⟨i0, hi0, hz0, hz1, hz2⟩ := info_parts info_blk
  exact run_slice_one u 24 63 (blkV .u32 b) (blkC .u32 b) i0 _ 33 Tryd.underlying24 hi0 hz0 hz1 (by omega) (by omega) rfl (blkC_length hb)
theorem one_ref (u : World) (b : Blk) (hb : b.ok) : (Instr.buildSlice 30 1 #[(0, blkV .i64 b)]).run Tryd.prog u = .ok (.slice (some ⟨u.heap.size, 0, none⟩) 1 1) (u.alloc (.cells (blkC .i64 b).toArray 111)) := by
  obtain ⟨i0, hi0, hz0, hz1, hz2⟩ := info_parts info_ref
  exact run_slice_one u 30 111 (blkV .i64 b) (blkC .i64 b) i0 _ 33 Tryd.underlying30 hi0 hz0 hz1 (by omega) (by omega) rfl (blkC_length hb)
end Go.Proofs.YtheambpddpfcfaaDoor.Kg
