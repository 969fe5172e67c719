/- newHasher: a hasher that has taken nothing yet. -/
import Derived.Test.YtheambpddpfcfaaDoorSx
namespace Go.Proofs.YtheambpddpfcfaaDoor.Sn
set_option linter.unusedVariables false
set_option linter.unusedSimpArgs false
set_option maxRecDepth 100000
open Go.ChangeShapes Go.WideShapes Go.ChangeAt Go.RowKit
open Go.Proofs.YtheambpddpfcfaaDoor.Wu Go.Proofs.YtheambpddpfcfaaDoor.Sm Go.Proofs.YtheambpddpfcfaaDoor.Sk Go.Proofs.YtheambpddpfcfaaDoor.Sc Go.Proofs.YtheambpddpfcfaaDoor.Sxa
/-- The first state, as it lies in the heap. -/
def Fst (w : World) : Prop := ∃ T f, w.heap[1]? = some (.cells (u32s H0.list) T f)
theorem fst_lt {w : World} (h : Fst w) : 1 < w.heap.size := by obtain ⟨T, f, h⟩ := h; exact heap_lt h
theorem fst_keep {N : Nat} {w w' : World} (h : Fst w) (hb : Below N w w') (hN : w.heap.size ≤ N) : Fst w' := by
  obtain ⟨T, f, h⟩ := h
  exact ⟨T, f, below_blk hb (Nat.lt_of_lt_of_le (heap_lt h) hN) h⟩
theorem info8 : (Tryd.prog.info? 172).map (·.size) = some 8 := by kernel_rfl
theorem info74 : (Tryd.prog.info? 176).map (·.size) = some 74 := by kernel_rfl
/-- A hasher of noughts. -/
def Z8 : S8 := ⟨0, 0, 0, 0, 0, 0, 0, 0⟩
theorem zeroH (w : World) : Sem.run Tryd.prog (zeroValue 176) w = .ok (.agg (hcells Z8 (zeros 64) 0 0).toArray) w := by kernel_rfl
theorem there_cells {w : World} {B : Nat} {xs : List Value} {T : TypeId} (h : w.heap[B]? = some (.cells xs.toArray T (0, 0))) : w.there B 0 xs.length := fun j hj =>
  ⟨by rw [Nat.zero_add, blk_cell h (x := xs[j]) (by simp)]; rfl, blk_free h⟩
theorem range_cells {w : World} {B : Nat} {xs : List Value} {T : TypeId} {f : Nat × Nat} (h : w.heap[B]? = some (.cells xs.toArray T f)) : w.rangeAt B 0 xs := fun j v hv => by
  rw [Nat.zero_add]; exact blk_cell h (by simpa using hv)
theorem hcells_length (s : S8) (B : List Nat) (u l : Int) : (hcells s B u l).length = 10 + B.length := by simp [hcells, S8.list]; omega
theorem hcells_one (s : S8) (B : List Nat) (u l : Int) : (hcells s B u l).toArray.all (·.oneCell') = true := by simp [hcells, Value.oneCell']
theorem newHasher_c (w : World) (hf : Fst w) :
    Calls Tryd.prog 98 #[] w fun e w' => e = .returned (.agg (hcells H0 (zeros 64) 0 0).toArray) ∧ Below w.heap.size w w' := by
  obtain ⟨T, f, hf⟩ := hf
  have hr := hide (rangeAt_all (w := w.alloc (.cells (hcells Z8 (zeros 64) 0 0).toArray 176)) (heap_old hf _))
  have hz := zeroH w
  go_enter Tryd.func98, Tryd.ntmps98
  go_wp2_with (first
    | (refine wpList_load_mid rfl 172 (.global 1) rfl 1 0 rfl _ _ hr.out Tryd.underlying172 rfl (by rw [info8]; rfl) ?_)
    | (refine wpList_build_to rfl 176 _ rfl (some 2) rfl (hcells H0 (zeros 64) 0 0).toArray (by as_aux_lemma => kernel_rfl) ?_)
    | (refine wpList_store_mid rfl 176 (.tmp 0) (.tmp 2) rfl w.heap.size 0 _ rfl rfl ?_ ?_ ?_ ?_))
  · have := there_cells (heap_last w (.cells (hcells Z8 (zeros 64) 0 0).toArray 176))
    exact this
  · rw [info74]; rfl
  · exact hcells_one _ _ _ _
  have h3 := blk_setCells (hcells H0 (zeros 64) 0 0) 0 (w.alloc (.cells (hcells Z8 (zeros 64) 0 0).toArray 176)) (hcells Z8 (zeros 64) 0 0) (by rw [hcells_length, hcells_length]; omega) (heap_last w _)
  have hb : Below w.heap.size w ((w.alloc (.cells (hcells Z8 (zeros 64) 0 0).toArray 176)).setCells w.heap.size 0 (hcells H0 (zeros 64) 0 0)) := below_setCells _ _ _ _ (below_new _ _) (Nat.le_refl _)
  rw [show (hcells Z8 (zeros 64) 0 0).take 0 ++ hcells H0 (zeros 64) 0 0 ++ (hcells Z8 (zeros 64) 0 0).drop (0 + (hcells H0 (zeros 64) 0 0).length) = hcells H0 (zeros 64) 0 0 from rfl] at h3
  go_wp2_with fail
  refine bodyPost_ret (v := .agg (hcells H0 (zeros 64) 0 0).toArray) ?_ rfl ⟨rfl, hb⟩
  rw [results_one_cell Tryd.results98]
  have h4 := run_loadVar_mid (P := Tryd.prog) _ w.heap.size 0 176 (hcells H0 (zeros 64) 0 0) _ (range_cells h3) Tryd.underlying176 rfl (by rw [info74]; rfl)
  simpa [asAddr, Act.put] using h4
end Go.Proofs.YtheambpddpfcfaaDoor.Sn
