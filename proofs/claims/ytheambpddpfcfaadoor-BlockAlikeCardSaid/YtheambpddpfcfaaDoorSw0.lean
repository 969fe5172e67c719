/- The hasher's cells behind stores; what it has taken; bytes that are read. -/
import Derived.Test.YtheambpddpfcfaaDoorSx
import Derived.Test.YtheambpddpfcfaaDoorSh
import Derived.Test.YtheambpddpfcfaaDoorSn
import Derived.Laws.CopyOwn
namespace Go.Proofs.YtheambpddpfcfaaDoor.Sw0
set_option linter.unusedVariables false
set_option linter.unusedSimpArgs false
set_option maxRecDepth 100000
open Go.ChangeShapes Go.WideShapes Go.ChangeAt Go.RowKit
open Go.Proofs.YtheambpddpfcfaaDoor.Wu Go.Proofs.YtheambpddpfcfaaDoor.Sm Go.Proofs.YtheambpddpfcfaaDoor.Sk Go.Proofs.YtheambpddpfcfaaDoor.Sc Go.Proofs.YtheambpddpfcfaaDoor.Sxa Go.Proofs.YtheambpddpfcfaaDoor.Sh Go.Proofs.YtheambpddpfcfaaDoor.Sn

theorem hcells_at (s : S8) (B : List Nat) (u l : Int) (hB : B.length = 64) : (hcells s B u l)[72]? = some (.int .i64 u) ∧ (hcells s B u l)[73]? = some (.int .u64 l) := by
  unfold hcells
  have h1 : ((s.list.map fun x : Nat => Value.int .u32 (x : Int)) ++ (B.map fun x : Nat => Value.int .u8 (x : Int))).length = 72 := by simp [S8.list, hB]
  constructor
  · rw [List.getElem?_append_right (by omega), h1]; rfl
  · rw [List.getElem?_append_right (by omega), h1]; rfl
theorem hsh_used {w : World} {g : Nat} {s : S8} {B : List Nat} {u l : Int} (h : Hsh w g s B u l) (hB : B.length = 64) : w.cell? ⟨g, 72, none⟩ = some (.int .i64 u) :=
  blk_cell h (by simpa using (hcells_at s B u l hB).1)
theorem hsh_len {w : World} {g : Nat} {s : S8} {B : List Nat} {u l : Int} (h : Hsh w g s B u l) (hB : B.length = 64) : w.cell? ⟨g, 73, none⟩ = some (.int .u64 l) :=
  blk_cell h (by simpa using (hcells_at s B u l hB).2)
theorem hsh_set_used {w : World} {g : Nat} {s : S8} {B : List Nat} {u l : Int} (h : Hsh w g s B u l) (hB : B.length = 64) (v : Int) : Hsh (w.setCell ⟨g, 72, none⟩ (.int .i64 v)) g s B v l := by
  have e := blk_set (i := 72) h (.int .i64 v)
  have h1 : ((s.list.map fun x : Nat => Value.int .u32 (x : Int)) ++ (B.map fun x : Nat => Value.int .u8 (x : Int))).length = 72 := by simp [S8.list, hB]
  unfold Hsh
  rw [e, List.setIfInBounds_toArray]
  unfold hcells
  rw [List.set_append_right _ _ (by omega), h1]
  rfl
theorem hsh_set_len {w : World} {g : Nat} {s : S8} {B : List Nat} {u l : Int} (h : Hsh w g s B u l) (hB : B.length = 64) (v : Int) : Hsh (w.setCell ⟨g, 73, none⟩ (.int .u64 v)) g s B u v := by
  have e := blk_set (i := 73) h (.int .u64 v)
  have h1 : ((s.list.map fun x : Nat => Value.int .u32 (x : Int)) ++ (B.map fun x : Nat => Value.int .u8 (x : Int))).length = 72 := by simp [S8.list, hB]
  unfold Hsh
  rw [e, List.setIfInBounds_toArray]
  unfold hcells
  rw [List.set_append_right _ _ (by omega), h1]
  rfl
/-- The hasher's block behind bytes that were copied into its block of bytes. -/
theorem hcells_splice (s : S8) (B x : List Nat) (u l : Int) (n : Nat) (hB : B.length = 64) (hn : n + x.length ≤ 64) :
    (hcells s B u l).take (8 + n) ++ ((x.map fun x : Nat => Value.int .u8 (x : Int)) ++ (hcells s B u l).drop (8 + n + x.length)) = hcells s (B.take n ++ x ++ B.drop (n + x.length)) u l := by
  have h8 : (s.list.map fun x : Nat => Value.int .u32 (x : Int)).length = 8 := by simp [S8.list]
  unfold hcells
  generalize (s.list.map fun x : Nat => Value.int .u32 (x : Int)) = P at h8
  simp only [List.append_assoc]
  rw [List.take_append, List.drop_append, h8, List.take_of_length_le (by omega), List.drop_eq_nil_of_le (by omega), show 8 + n - 8 = n by omega, show 8 + n + x.length - 8 = n + x.length by omega]
  rw [List.take_append_of_le_length (by simp; omega), List.drop_append_of_le_length (by simp; omega), List.map_append, List.map_append, List.map_take, List.map_drop]
  simp
theorem grown_setCell {a w : World} {g : Nat} (h : a.grownBy w (some g)) (o : Nat) (v : Value) : a.grownBy (w.setCell ⟨g, o, none⟩ v) (some g) :=
  ⟨h.os, h.tape, h.output, by simpa [World.setCell] using h.size, fun i hi hne => (Below.heap_setCell w ⟨g, o, none⟩ v i (fun e => hne (by rw [e]))).trans (h.block i hi hne)⟩
theorem grown_setRow {a w : World} {g : Nat} (h : a.grownBy w (some g)) (cs : Array Value) : a.grownBy (w.setRow g cs) (some g) :=
  ⟨h.os, h.tape, h.output, by simpa [World.setRow] using h.size, fun i hi hne => (setRow_other w g i cs (fun e => hne (by rw [e]))).trans (h.block i hi hne)⟩
theorem grown_drew {a w : World} {row : Option Nat} (h : a.grownBy w row) : a.grownBy w.drew row := ⟨h.os, h.tape, h.output, h.size, h.block⟩
theorem grown_below {a w w' : World} {g : Option Nat} {N : Nat} (h : a.grownBy w g) (hb : Below N w w') (hN : a.heap.size ≤ N) : a.grownBy w' g :=
  ⟨hb.os.trans h.os, hb.tape.trans h.tape, hb.output.trans h.output, Nat.le_trans h.size hb.size, fun i hi hne => (hb.block i (Nat.lt_of_lt_of_le hi hN)).trans (h.block i hi hne)⟩
theorem grown_trans {a b c : World} {g : Option Nat} (h : a.grownBy b g) (k : b.grownBy c g) : a.grownBy c g :=
  ⟨k.os.trans h.os, k.tape.trans h.tape, k.output.trans h.output, Nat.le_trans h.size k.size, fun i hi hne => (k.block i (Nat.lt_of_lt_of_le hi h.size) hne).trans (h.block i hi hne)⟩
theorem grown_cell {a w : World} {g : Nat} (h : a.grownBy w (some g)) {b o : Nat} {v : Value} (hb : b ≠ g) (hc : a.cell? ⟨b, o, none⟩ = some v) : w.cell? ⟨b, o, none⟩ = some v := by
  have hl := cell_lt hc
  have e := h.block b hl (fun e => hb (by injection e))
  exact (World.cell?_of_block (a := ⟨b, o, none⟩) e).trans hc
theorem grown_tbl {a w : World} {g : Nat} (h : a.grownBy w (some g)) (hg : g ≠ 2) (ht : Tbl a) : Tbl w := by
  obtain ⟨T, f, ht⟩ := ht
  exact ⟨T, f, (h.block _ (heap_lt ht) (fun e => hg (by injection e with e; exact e.symm))).trans ht⟩
/-- What a hasher has taken. -/
def Took (w : World) (g : Nat) (M : List Nat) : Prop := ∃ B : List Nat, B.length = 64 ∧ All8 B ∧ B.take (M.length % 64) = rest M ∧ Hsh w g (st M) B ((M.length % 64 : Nat) : Int) (M.length : Int)
/-- A slice of m bytes L: nil, empty, or over cells that are there, in a block that isn't g. -/
def SrcN (w : World) (g : Nat) (a : Option Addr) (m : Nat) (L : List Nat) : Prop :=
  L.length = m ∧ All8 L ∧ ∃ b off, (0 < m → a = some ⟨b, off, none⟩) ∧ (0 < m → b ≠ g) ∧ ∀ i, i < m → w.cell? ⟨b, off + i, none⟩ = some (.int .u8 ((L.getD i 0 : Nat) : Int))
/-- The piece that goes over. -/
def piece (L : List Nat) (k n : Nat) : List Nat := (L.drop k).take n
theorem piece_length (L : List Nat) (k n : Nat) (h : k + n ≤ L.length) : (piece L k n).length = n := by simp [piece]; omega
theorem take_piece (L : List Nat) (k n : Nat) : L.take k ++ piece L k n = L.take (k + n) := by
  unfold piece
  rw [List.take_add]
theorem piece_all {L : List Nat} (h : All8 L) (k n : Nat) : All8 (piece L k n) := all8_take (all8_drop h k) n
theorem piece_at (L : List Nat) (k n j : Nat) (h : j < n) : (piece L k n)[j]? = L[k + j]? := by
  unfold piece
  rw [List.getElem?_take_of_lt h, List.getElem?_drop]
theorem sliceL64 (u : World) (B o L : Nat) (hne : L < 64) :
    Sem.run Tryd.prog (Instr.sliceAt 173 (.pointer (some ⟨B, o, none⟩)) (some (.int .i64 (L : Int))) none none) u = .ok (.slice (some ⟨B, o + L, none⟩) (64 - L) (64 - L)) u := by
  rw [run_sliceAt_array_l u 173 ⟨B, o, none⟩ (by rw [alen64, aelem64]; exact Tryd.underlying173) .i64 _ (by omega) (by rw [alen64]; omega), aelem64, size_u8, alen64]
  simp only [Result.andThen, slicedAt, Int.toNat_natCast, Nat.mul_one]
  rw [if_neg (by omega), Addr.add_mid]
theorem elem_bs : Tryd.prog.elem 22 = 5 := by simp [Program.elem, Tryd.underlying22]
theorem und_bs : Tryd.prog.underlying 22 = some (.slice (Tryd.prog.elem 22)) := by rw [elem_bs]; exact Tryd.underlying22
/-- b[n:] -/
theorem slice_from (u : World) (a : Option Addr) (len cap n : Nat) (h : n ≤ len) :
    Sem.run Tryd.prog (Instr.slice 22 (.slice a len cap) (some (.int .i64 (n : Int))) none none) u = .ok (.slice (if cap = n then a else a.map (·.add n)) (len - n) (cap - n)) u := by
  rw [run_slice_l u 22 a len cap und_bs .i64 _ (by omega) (by omega), elem_bs, size_u8]
  simp only [Result.andThen, sliced, Int.toNat_natCast, Nat.mul_one]
theorem info_u8s : (Tryd.prog.info? 5).map (·.size) = some 1 := by kernel_rfl
/-- A row of bytes' cells. -/
def b8 (X : List Nat) : List Value := X.map fun x : Nat => Value.int .u8 (x : Int)
theorem b8_length (X : List Nat) : (b8 X).length = X.length := by simp [b8]
theorem b8_one (X : List Nat) : ∀ v ∈ b8 X, v.oneCell' = true := by
  intro v hv
  simp only [b8, List.mem_map] at hv
  obtain ⟨x, _, rfl⟩ := hv
  rfl
theorem b8_at {X : List Nat} {j : Nat} {v : Value} (h : (b8 X)[j]? = some v) : j < X.length ∧ v = .int .u8 ((X.getD j 0 : Nat) : Int) := by
  have hj : j < X.length := by have := (List.getElem?_eq_some_iff.1 h).1; rwa [b8_length] at this
  refine ⟨hj, ?_⟩
  simp only [b8, List.getElem?_map, List.getElem?_eq_getElem hj, Option.map_some, Option.some.injEq] at h
  rw [← h]
  simp [List.getD, hj]
theorem piece_getD (L : List Nat) (k n j : Nat) (h : j < n) : (piece L k n).getD j 0 = L.getD (k + j) 0 := by
  simp only [List.getD, piece_at L k n j h]
/-- Behind a copy: the hasher with the bytes in its block. -/
theorem hsh_copied {w : World} {g : Nat} {s : S8} {B : List Nat} {u l : Int} (h : Hsh w g s B u l) (hB : B.length = 64) (n : Nat) (x : List Nat) (hn : n + x.length ≤ 64) :
    Hsh (w.setRow g ((hcells s B u l).take (8 + n) ++ (b8 x ++ (hcells s B u l).drop (8 + n + (b8 x).length))).toArray) g s (B.take n ++ x ++ B.drop (n + x.length)) u l := by
  have e := setRow_heap w g _ ((hcells s B u l).take (8 + n) ++ (b8 x ++ (hcells s B u l).drop (8 + n + (b8 x).length))).toArray _ _ h
  unfold Hsh
  rw [e, b8_length]
  unfold b8
  rw [hcells_splice s B x u l n hB hn]
theorem take_copied (B x : List Nat) (n : Nat) (hB : B.length = 64) (hn : n + x.length ≤ 64) : (B.take n ++ x ++ B.drop (n + x.length)).length = 64 ∧ (B.take n ++ x ++ B.drop (n + x.length)).take (n + x.length) = B.take n ++ x := by
  have h1 : (B.take n ++ x).length = n + x.length := by simp; omega
  refine ⟨by simp; omega, ?_⟩
  rw [List.take_append_of_le_length (by omega), List.take_of_length_le (by omega)]
end Go.Proofs.YtheambpddpfcfaaDoor.Sw0
