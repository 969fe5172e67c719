/- The laws' plain (layer 4). -/
import Derived.Test.YtofflmhfffphdaaFc
import Derived.Test.YtofflmhfffphdaaBs
namespace Go.Proofs.Ytofflmhfffphdaa.Fp
set_option linter.unusedVariables false
set_option linter.unusedSimpArgs false
set_option maxRecDepth 100000
open Go.ChangeShapes Go.WideShapes Go.ChangeAt Go.RowKit
open Go.Proofs.Ytofflmhfffphdaa.Wu Go.Proofs.Ytofflmhfffphdaa.Sm Go.Proofs.Ytofflmhfffphdaa.Sh Go.Proofs.Ytofflmhfffphdaa.Ba Go.Proofs.Ytofflmhfffphdaa.Bp Go.Proofs.Ytofflmhfffphdaa.Bs Go.Proofs.Ytofflmhfffphdaa.Fc
theorem load_plain {W : World} {b : Nat} {x y z : Value} {T : TypeId} {f : Nat × Nat} (h : W.heap[b]? = some (.cells #[x, y, z] T f)) : Sem.run Try.prog (loadVar 35 ⟨b, 0, none⟩) W = .ok (.agg #[x, y, z]) W :=
  run_loadVar_mid (P := Try.prog) W b 0 35 [x, y, z] _ (range3 h) Try.underlying35 rfl (by kernel_rfl)
set_option maxRecDepth 100000 in
theorem plain_c (k s : Int) (a : Option Addr) (l c : Nat) (D : List Nat) (w : World) (hs : SrcB w a l D) :
    Calls Try.prog 7 #[.agg #[.int .i64 k, .int .i64 s, .slice a l c]] w fun e w' => e = .returned (.agg #[.int .i64 k, .int .i64 s, .string (strN D)]) ∧ Below w.heap.size w w' := by
  have HV := hide (fun u (hu : Below w.heap.size w u) => conv_src (cap := c) (hs.below hu))
  clear hs
  go_enter Try.func7, Try.ntmps7
  go_wp2_with fail
  have hb1 := (below_new w (.cells #[.int .i64 k, .int .i64 s, .slice a l c] 26))
  have hb2 := keepB (below_new (w.alloc (.cells #[.int .i64 k, .int .i64 s, .slice a l c] 26)) (.cells #[.int .i64 0, .int .i64 0, .string ⟨#[]⟩] 35)) (Nat.le_refl _) hb1
  have HR := hide (heap_last (w.alloc (.cells #[.int .i64 k, .int .i64 s, .slice a l c] 26)) (.cells #[.int .i64 0, .int .i64 0, .string ⟨#[]⟩] 35))
  rw [HV.out _ hb2]
  have HB2 := hide hb2
  rw [World.size_alloc] at HR
  clear hb1 hb2
  generalize (w.alloc (.cells #[.int .i64 k, .int .i64 s, .slice a l c] 26)).alloc (.cells #[.int .i64 0, .int .i64 0, .string ⟨#[]⟩] 35) = w2 at *
  have f0 : w2.cell? ⟨w.heap.size + 1, 0, none⟩ = some (.int .i64 0) := blk_cell HR.out rfl
  have f1 : w2.cell? ⟨w.heap.size + 1, 1, none⟩ = some (.int .i64 0) := blk_cell HR.out rfl
  have f2 : w2.cell? ⟨w.heap.size + 1, 2, none⟩ = some (.string ⟨#[]⟩) := blk_cell HR.out rfl
  have z0 : w2.frozen? ⟨w.heap.size + 1, 0, none⟩ = false := blk_free HR.out
  have z1 : w2.frozen? ⟨w.heap.size + 1, 1, none⟩ = false := blk_free HR.out
  have z2 : w2.frozen? ⟨w.heap.size + 1, 2, none⟩ = false := blk_free HR.out
  go_wp2_with fail
  have HL := hide (load_plain (set_frame HR.out (.int .i64 k) (.int .i64 s) (.string (strN D))))
  have HB5 := hide (belowG HB2.out (grown_setCell (grown_setCell (grown_setCell (World.grownBy.refl w2 (some (w.heap.size + 1))) 0 (.int .i64 k)) 1 (.int .i64 s)) 2 (.string (strN D))) (by omega) HB2.out.size)
  refine bodyPost_ret (v := .agg #[.int .i64 k, .int .i64 s, .string (strN D)]) ?_ rfl ⟨rfl, HB5.out⟩
  simp [results, Try.results7, asAddr, HL.out]
end Go.Proofs.Ytofflmhfffphdaa.Fp
