/- append of a block to a slice of the call's own; a signature in memory. -/
import Derived.Test.YtheambpddpfcfaaDoorKc
import Derived.Maps.AppendAt
namespace Go.Proofs.YtheambpddpfcfaaDoor.Kd
set_option linter.unusedVariables false
set_option linter.unusedSimpArgs false
set_option maxRecDepth 100000
open Go.ChangeShapes Go.WideShapes Go.ChangeAt Go.RowKit
open Go.Proofs.YtheambpddpfcfaaDoor.Wu Go.Proofs.YtheambpddpfcfaaDoor.Sm Go.Proofs.YtheambpddpfcfaaDoor.Sh Go.Proofs.YtheambpddpfcfaaDoor.Ba Go.Proofs.YtheambpddpfcfaaDoor.Bp Go.Proofs.YtheambpddpfcfaaDoor.Ka Go.Proofs.YtheambpddpfcfaaDoor.Kb Go.Proofs.YtheambpddpfcfaaDoor.Kc
theorem info_blk : (Tryd.prog.info? 63).map (fun i => (i.zero, i.size, i.bytes)) = some (some (blkV .u32 ⟨0, zeros 32⟩), 33, 36) := by kernel_rfl
theorem info_ref : (Tryd.prog.info? 111).map (fun i => (i.zero, i.size, i.bytes)) = some (some (blkV .i64 ⟨0, zeros 32⟩), 33, 40) := by kernel_rfl
theorem blk_cells {q : IntKind} {w : World} {b : Nat} {x : Blk} {T : TypeId} {f : Nat × Nat} (h : w.heap[b]? = some (.cells (blkC q x).toArray T f)) : ∀ j u, (blkC q x)[j]? = some u → w.cell? ((⟨b, 0, none⟩ : Addr).add j) = some u := by
  intro j u hu
  rw [Addr.add_mid, Nat.zero_add]
  exact blk_cell h (by simpa using hu)
/-- append(list, x) -/
theorem append_bk (q : IntKind) (sT e : TypeId) (z : Value) (by_ : Nat) (hu : Tryd.prog.underlying sT = some (.slice e)) (hi : (Tryd.prog.info? e).map (fun i => (i.zero, i.size, i.bytes)) = some (some z, 33, by_)) (hby : by_ ≤ 40) (hz33 : z.cells.size = 33)
    (w : World) (ty : TypeId) (v : Value) (N : Nat) (bs : List Blk) (b : Nat) (x : Blk) (T : TypeId) (f : Nat × Nat) (c : Nat) (h : OwnBks q e w N v bs) (hN : N ≤ w.heap.size) (hx : x.ok) (hb : w.heap[b]? = some (.cells (blkC q x).toArray T f)) (hbig : bs.length ≤ 1000000000) :
    ∃ v' w', (Builtin.append_ #[sT, sT] ty #[v, .slice (some ⟨b, 0, none⟩) 1 c]).run Tryd.prog w = .ok v' w' ∧ OwnBks q e w' N v' (bs ++ [x]) ∧ w.grownBy w' v.ownBlock ∧ (v'.ownBlock = v.ownBlock ∨ v'.ownBlock = some w.heap.size) := by
  obtain ⟨i0, hi0, hz0, hz1, hz2⟩ := info_parts hi
  obtain ⟨h0, ho⟩ := h
  have h33 := blkC_length (q := q) hx
  obtain ⟨v', w', hr, h1, h2, h3, h4⟩ := run_append_own_at (P := Tryd.prog) w N sT ty e i0 _ 33 by_ hu hi0 hz0 hz1 hz2 hz33 (by omega) v bs.length (rowC q bs) ho ⟨b, 0, none⟩ 1 c (blkC q x) (by rw [h33]) (blk_cells hb) (blkC_one q x) (by unfold maxLen; omega) (Nat.le_trans (Nat.mul_le_mul (show bs.length + 1 ≤ 1000000001 by omega) hby) (by omega)) hN
  refine ⟨v', w', hr, ⟨?_, ?_⟩, h2, h4⟩
  · intro y hy
    rcases List.mem_append.1 hy with hy | hy
    · exact h0 y hy
    · rw [List.mem_singleton.1 hy]; exact hx
  · rw [rowC_append, List.length_append]
    have : rowC q [x] = blkC q x := by simp [rowC]
    rw [this]
    exact h1
/-- A signature's cells in block S. -/
def Sig4 (T : TypeId) (w : World) (S : Nat) (sz cut len : Int) (v : Value) : Prop := w.heap[S]? = some (.cells #[.int .i64 sz, .int .i64 cut, .int .i64 len, v] T (0, 0))
section
variable {T : TypeId} {w : World} {S : Nat} {sz cut len : Int} {v : Value}
theorem Sig4.cells (h : Sig4 T w S sz cut len v) : w.cell? ⟨S, 0, none⟩ = some (.int .i64 sz) ∧ w.cell? ⟨S, 1, none⟩ = some (.int .i64 cut) ∧ w.cell? ⟨S, 2, none⟩ = some (.int .i64 len) ∧ w.cell? ⟨S, 3, none⟩ = some v :=
  ⟨blk_cell h rfl, blk_cell h rfl, blk_cell h rfl, blk_cell h rfl⟩
theorem Sig4.free (h : Sig4 T w S sz cut len v) (i : Nat) : w.frozen? ⟨S, i, none⟩ = false := blk_free h
theorem Sig4.setList (h : Sig4 T w S sz cut len v) (x : Value) : Sig4 T (w.setCell ⟨S, 3, none⟩ x) S sz cut len x := by
  have := blk_set (i := 3) h x
  unfold Sig4
  rw [this]
  simp
theorem Sig4.below {w' : World} (h : Sig4 T w S sz cut len v) (hb : Below w.heap.size w w') : Sig4 T w' S sz cut len v := below_blk hb (heap_lt h) h
theorem Sig4.kept {w' : World} {row : Option Nat} (h : Sig4 T w S sz cut len v) (hg : w.grownBy w' row) (hS : some S ≠ row) : Sig4 T w' S sz cut len v := (hg.block S (heap_lt h) hS).trans h
end
theorem und_sig : Tryd.prog.underlying 26 = some (.struct (Tryd.prog.fieldsOf 26)) := by kernel_rfl
end Go.Proofs.YtheambpddpfcfaaDoor.Kd
