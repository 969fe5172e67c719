/- Several texts, one behind the other. -/
import Derived.Test.YtkinpbhbgeiflaaDoorQa
import Derived.Laws.CopyOwn
import Derived.StillTailTactics
import Derived.IntWalk
import Derived.ArgAppend
import Derived.Laws.AppendOwn
import Derived.Laws.BytesArg
import Derived.Laws.Concat
/- The hasher's cells behind stores; what it has taken; bytes that are read. -/
namespace Go.Proofs.YtkinpbhbgeiflaaDoor.Sw0
set_option linter.unusedVariables false
set_option linter.unusedSimpArgs false
set_option maxRecDepth 100000
open Go.ChangeShapes Go.WideShapes Go.ChangeAt Go.RowKit
open Go.Proofs.YtkinpbhbgeiflaaDoor.Wu Go.Proofs.YtkinpbhbgeiflaaDoor.Sm Go.Proofs.YtkinpbhbgeiflaaDoor.Sk Go.Proofs.YtkinpbhbgeiflaaDoor.Sc Go.Proofs.YtkinpbhbgeiflaaDoor.Sxa Go.Proofs.YtkinpbhbgeiflaaDoor.Sh Go.Proofs.YtkinpbhbgeiflaaDoor.Sn

theorem hcells_at (s : S8) (B : List Nat) (u l : Int) (hB : B.length = 64) : (hcells s B u l)[72]? = some (.int .i64 u) ∧ (hcells s B u l)[73]? = some (.int .u64 l) := by
  unfold hcells
  have h1 : ((s.list.map fun x : Nat => Value.int .u32 (x : Int)) ++ (B.map fun x : Nat => Value.int .u8 (x : Int))).length = 72 := by simp [S8.list, hB]
  constructor
  · rw [List.getElem?_append_right (by omega), h1]; rfl
  · rw [List.getElem?_append_right (by omega), h1]; rfl
theorem hsh_used {w : World} {g : Nat} {s : S8} {B : List Nat} {u l : Int} (h : Hsh w g s B u l) (hB : B.length = 64) : w.cell? ⟨g, 72, none⟩ = some (.int .i64 u) :=
  blk_cell h (by simpa using (hcells_at s B u l hB).1)
theorem hsh_len {w : World} {g : Nat} {s : S8} {B : List Nat} {u l : Int} (h : Hsh w g s B u l) (hB : B.length = 64) : w.cell? ⟨g, 73, none⟩ = some (.int .u64 l) :=
  blk_cell h (by simpa using (hcells_at s B u l hB).2)
theorem hsh_set_used {w : World} {g : Nat} {s : S8} {B : List Nat} {u l : Int} (h : Hsh w g s B u l) (hB : B.length = 64) (v : Int) : Hsh (w.setCell ⟨g, 72, none⟩ (.int .i64 v)) g s B v l := by
  have e := blk_set (i := 72) h (.int .i64 v)
  have h1 : ((s.list.map fun x : Nat => Value.int .u32 (x : Int)) ++ (B.map fun x : Nat => Value.int .u8 (x : Int))).length = 72 := by simp [S8.list, hB]
  unfold Hsh
  rw [e, List.setIfInBounds_toArray]
  unfold hcells
  rw [List.set_append_right _ _ (by omega), h1]
  rfl
theorem hsh_set_len {w : World} {g : Nat} {s : S8} {B : List Nat} {u l : Int} (h : Hsh w g s B u l) (hB : B.length = 64) (v : Int) : Hsh (w.setCell ⟨g, 73, none⟩ (.int .u64 v)) g s B u v := by
  have e := blk_set (i := 73) h (.int .u64 v)
  have h1 : ((s.list.map fun x : Nat => Value.int .u32 (x : Int)) ++ (B.map fun x : Nat => Value.int .u8 (x : Int))).length = 72 := by simp [S8.list, hB]
  unfold Hsh
  rw [e, List.setIfInBounds_toArray]
  unfold hcells
  rw [List.set_append_right _ _ (by omega), h1]
  rfl
/-- The hasher's block behind bytes that were copied into its block of bytes. -/
theorem hcells_splice (s : S8) (B x : List Nat) (u l : Int) (n : Nat) (hB : B.length = 64) (hn : n + x.length ≤ 64) :
    (hcells s B u l).take (8 + n) ++ ((x.map fun x : Nat => Value.int .u8 (x : Int)) ++ (hcells s B u l).drop (8 + n + x.length)) = hcells s (B.take n ++ x ++ B.drop (n + x.length)) u l := by
  have h8 : (s.list.map fun x : Nat => Value.int .u32 (x : Int)).length = 8 := by simp [S8.list]
  unfold hcells
  generalize (s.list.map fun x : Nat => Value.int .u32 (x : Int)) = P at h8
  simp only [List.append_assoc]
  rw [List.take_append, List.drop_append, h8, List.take_of_length_le (by omega), List.drop_eq_nil_of_le (by omega), show 8 + n - 8 = n by omega, show 8 + n + x.length - 8 = n + x.length by omega]
  rw [List.take_append_of_le_length (by simp; omega), List.drop_append_of_le_length (by simp; omega), List.map_append, List.map_append, List.map_take, List.map_drop]
  simp
theorem grown_setCell {a w : World} {g : Nat} (h : a.grownBy w (some g)) (o : Nat) (v : Value) : a.grownBy (w.setCell ⟨g, o, none⟩ v) (some g) :=
  ⟨h.os, h.tape, h.output, by simpa [World.setCell] using h.size, fun i hi hne => (Below.heap_setCell w ⟨g, o, none⟩ v i (fun e => hne (by rw [e]))).trans (h.block i hi hne)⟩
theorem grown_setRow {a w : World} {g : Nat} (h : a.grownBy w (some g)) (cs : Array Value) : a.grownBy (w.setRow g cs) (some g) :=
  ⟨h.os, h.tape, h.output, by simpa [World.setRow] using h.size, fun i hi hne => (setRow_other w g i cs (fun e => hne (by rw [e]))).trans (h.block i hi hne)⟩
theorem grown_drew {a w : World} {row : Option Nat} (h : a.grownBy w row) : a.grownBy w.drew row := ⟨h.os, h.tape, h.output, h.size, h.block⟩
theorem grown_below {a w w' : World} {g : Option Nat} {N : Nat} (h : a.grownBy w g) (hb : Below N w w') (hN : a.heap.size ≤ N) : a.grownBy w' g :=
  ⟨hb.os.trans h.os, hb.tape.trans h.tape, hb.output.trans h.output, Nat.le_trans h.size hb.size, fun i hi hne => (hb.block i (Nat.lt_of_lt_of_le hi hN)).trans (h.block i hi hne)⟩
theorem grown_trans {a b c : World} {g : Option Nat} (h : a.grownBy b g) (k : b.grownBy c g) : a.grownBy c g :=
  ⟨k.os.trans h.os, k.tape.trans h.tape, k.output.trans h.output, Nat.le_trans h.size k.size, fun i hi hne => (k.block i (Nat.lt_of_lt_of_le hi h.size) hne).trans (h.block i hi hne)⟩
theorem grown_cell {a w : World} {g : Nat} (h : a.grownBy w (some g)) {b o : Nat} {v : Value} (hb : b ≠ g) (hc : a.cell? ⟨b, o, none⟩ = some v) : w.cell? ⟨b, o, none⟩ = some v := by
  have hl := cell_lt hc
  have e := h.block b hl (fun e => hb (by injection e))
  exact (World.cell?_of_block (a := ⟨b, o, none⟩) e).trans hc
theorem grown_tbl {a w : World} {g : Nat} (h : a.grownBy w (some g)) (hg : g ≠ 2) (ht : Tbl a) : Tbl w := by
  obtain ⟨T, f, ht⟩ := ht
  exact ⟨T, f, (h.block _ (heap_lt ht) (fun e => hg (by injection e with e; exact e.symm))).trans ht⟩
/-- What a hasher has taken. -/
def Took (w : World) (g : Nat) (M : List Nat) : Prop := ∃ B : List Nat, B.length = 64 ∧ All8 B ∧ B.take (M.length % 64) = rest M ∧ Hsh w g (st M) B ((M.length % 64 : Nat) : Int) (M.length : Int)
/-- A slice of m bytes L: nil, empty, or over cells that are there, in a block that isn't g. -/
def SrcN (w : World) (g : Nat) (a : Option Addr) (m : Nat) (L : List Nat) : Prop :=
  L.length = m ∧ All8 L ∧ ∃ b off, (0 < m → a = some ⟨b, off, none⟩) ∧ (0 < m → b ≠ g) ∧ ∀ i, i < m → w.cell? ⟨b, off + i, none⟩ = some (.int .u8 ((L.getD i 0 : Nat) : Int))
/-- The piece that goes over. -/
def piece (L : List Nat) (k n : Nat) : List Nat := (L.drop k).take n
theorem piece_length (L : List Nat) (k n : Nat) (h : k + n ≤ L.length) : (piece L k n).length = n := by simp [piece]; omega
theorem take_piece (L : List Nat) (k n : Nat) : L.take k ++ piece L k n = L.take (k + n) := by
  unfold piece
  rw [List.take_add]
theorem piece_all {L : List Nat} (h : All8 L) (k n : Nat) : All8 (piece L k n) := all8_take (all8_drop h k) n
theorem piece_at (L : List Nat) (k n j : Nat) (h : j < n) : (piece L k n)[j]? = L[k + j]? := by
  unfold piece
  rw [List.getElem?_take_of_lt h, List.getElem?_drop]
theorem sliceL64 (u : World) (B o L : Nat) (hne : L < 64) :
    Sem.run Tryd.prog (Instr.sliceAt 205 (.pointer (some ⟨B, o, none⟩)) (some (.int .i64 (L : Int))) none none) u = .ok (.slice (some ⟨B, o + L, none⟩) (64 - L) (64 - L)) u := by
  rw [run_sliceAt_array_l u 205 ⟨B, o, none⟩ (by rw [alen64, aelem64]; exact Tryd.underlying205) .i64 _ (by omega) (by rw [alen64]; omega), aelem64, size_u8, alen64]
  simp only [Result.andThen, slicedAt, Int.toNat_natCast, Nat.mul_one]
  rw [if_neg (by omega), Addr.add_mid]
theorem elem_bs : Tryd.prog.elem 22 = 5 := by simp [Program.elem, Tryd.underlying22]
theorem und_bs : Tryd.prog.underlying 22 = some (.slice (Tryd.prog.elem 22)) := by rw [elem_bs]; exact Tryd.underlying22
/-- b[n:] -/
theorem slice_from (u : World) (a : Option Addr) (len cap n : Nat) (h : n ≤ len) :
    Sem.run Tryd.prog (Instr.slice 22 (.slice a len cap) (some (.int .i64 (n : Int))) none none) u = .ok (.slice (if cap = n then a else a.map (·.add n)) (len - n) (cap - n)) u := by
  rw [run_slice_l u 22 a len cap und_bs .i64 _ (by omega) (by omega), elem_bs, size_u8]
  simp only [Result.andThen, sliced, Int.toNat_natCast, Nat.mul_one]
theorem info_u8s : (Tryd.prog.info? 5).map (·.size) = some 1 := by kernel_rfl
/-- A row of bytes' cells. -/
def b8 (X : List Nat) : List Value := X.map fun x : Nat => Value.int .u8 (x : Int)
theorem b8_length (X : List Nat) : (b8 X).length = X.length := by simp [b8]
theorem b8_one (X : List Nat) : ∀ v ∈ b8 X, v.oneCell' = true := by
  intro v hv
  simp only [b8, List.mem_map] at hv
  obtain ⟨x, _, rfl⟩ := hv
  rfl
theorem b8_at {X : List Nat} {j : Nat} {v : Value} (h : (b8 X)[j]? = some v) : j < X.length ∧ v = .int .u8 ((X.getD j 0 : Nat) : Int) := by
  have hj : j < X.length := by have := (List.getElem?_eq_some_iff.1 h).1; rwa [b8_length] at this
  refine ⟨hj, ?_⟩
  simp only [b8, List.getElem?_map, List.getElem?_eq_getElem hj, Option.map_some, Option.some.injEq] at h
  rw [← h]
  simp [List.getD, hj]
theorem piece_getD (L : List Nat) (k n j : Nat) (h : j < n) : (piece L k n).getD j 0 = L.getD (k + j) 0 := by
  simp only [List.getD, piece_at L k n j h]
/-- Behind a copy: the hasher with the bytes in its block. -/
theorem hsh_copied {w : World} {g : Nat} {s : S8} {B : List Nat} {u l : Int} (h : Hsh w g s B u l) (hB : B.length = 64) (n : Nat) (x : List Nat) (hn : n + x.length ≤ 64) :
    Hsh (w.setRow g ((hcells s B u l).take (8 + n) ++ (b8 x ++ (hcells s B u l).drop (8 + n + (b8 x).length))).toArray) g s (B.take n ++ x ++ B.drop (n + x.length)) u l := by
  have e := setRow_heap w g _ ((hcells s B u l).take (8 + n) ++ (b8 x ++ (hcells s B u l).drop (8 + n + (b8 x).length))).toArray _ _ h
  unfold Hsh
  rw [e, b8_length]
  unfold b8
  rw [hcells_splice s B x u l n hB hn]
theorem take_copied (B x : List Nat) (n : Nat) (hB : B.length = 64) (hn : n + x.length ≤ 64) : (B.take n ++ x ++ B.drop (n + x.length)).length = 64 ∧ (B.take n ++ x ++ B.drop (n + x.length)).take (n + x.length) = B.take n ++ x := by
  have h1 : (B.take n ++ x).length = n + x.length := by simp; omega
  refine ⟨by simp; omega, ?_⟩
  rw [List.take_append_of_le_length (by omega), List.take_of_length_le (by omega)]
end Go.Proofs.YtkinpbhbgeiflaaDoor.Sw0
/- write: bytes that come are taken, whole blocks mixed in. -/
namespace Go.Proofs.YtkinpbhbgeiflaaDoor.Sw
set_option linter.unusedVariables false
set_option linter.unusedSimpArgs false
set_option maxRecDepth 100000
open Go.ChangeShapes Go.WideShapes Go.ChangeAt Go.RowKit
open Go.Proofs.YtkinpbhbgeiflaaDoor.Wu Go.Proofs.YtkinpbhbgeiflaaDoor.Sm Go.Proofs.YtkinpbhbgeiflaaDoor.Sk Go.Proofs.YtkinpbhbgeiflaaDoor.Sc Go.Proofs.YtkinpbhbgeiflaaDoor.Sxa Go.Proofs.YtkinpbhbgeiflaaDoor.Sh Go.Proofs.YtkinpbhbgeiflaaDoor.Sn Go.Proofs.YtkinpbhbgeiflaaDoor.Sw0 Go.Proofs.YtkinpbhbgeiflaaDoor.Sx

set_option maxHeartbeats 1600000 in
set_option maxRecDepth 100000 in
theorem write_c (g : Nat) (M : List Nat) (a : Option Addr) (m cap : Nat) (L : List Nat) (w : World) (hT : Took w g M) (ht : Tbl w) (hs : SrcN w g a m L) (hcap : m ≤ cap)
    (hgt : g ≠ 2) (hbig : M.length + m ≤ 281474976710656) :
    Calls Tryd.prog 116 #[.pointer (some ⟨g, 0, none⟩), .slice a m cap] w fun e w' => e = .returned (.tuple #[]) ∧ Took w' g (M ++ L) ∧ w.grownBy w' (some g) := by
  obtain ⟨hLl, hL8, bb, off, ha, hbg, hcl⟩ := hs
  obtain ⟨B0, hB0, hB8, hBr, hH⟩ := hT
  have HL := hide hLl
  have HA := hide ha
  have HC := hide hcl
  have HBR := hide hBr
  have HB0 := hide hB0
  have H := hide hH
  have HT := hide ht
  have c73 := hsh_len hH hB0
  have f73 := blk_free (i := 73) hH
  clear hLl ha hcl hBr hB0 hH ht
  go_enter Tryd.func116, Tryd.ntmps116
  go_wp2_with fail
  have H0 := hide (hsh_set_len H.out HB0.out ((M.length : Int) + (m : Int)))
  have G0 := hide (grown_setCell (World.grownBy.refl w (some g)) 73 (Value.int IntKind.u64 ((M.length : Int) + (m : Int))))
  have HT0 := hide (grown_tbl G0.out hgt HT.out)
  clear H c73 f73
  generalize (w.setCell ⟨g, 73, none⟩ (Value.int IntKind.u64 ((M.length : Int) + (m : Int)))) = w1 at *
  go_loopw [1, 4] (fun b _ wr => ∃ (k : Nat) (A : Option Addr) (B : List Nat), k ≤ m ∧ b = .slice A (m - k) (cap - k) ∧ (k < m → A = some ⟨bb, off + k, none⟩) ∧ B.length = 64 ∧ All8 B ∧ B.take ((M ++ L.take k).length % 64) = rest (M ++ L.take k) ∧
      Hsh wr g (st (M ++ L.take k)) B (((M ++ L.take k).length % 64 : Nat) : Int) ((M.length : Int) + (m : Int)) ∧ Tbl wr ∧ w.grownBy wr (some g)) (fun b _ _ => match b with | .slice _ n _ => n | _ => 0)
  case atStart =>
    refine ⟨0, a, B0, by omega, rfl, fun h => HA.out h, HB0.out, hB8, ?_, ?_, HT0.out, G0.out⟩
    · rw [List.take_zero, List.append_nil]; exact HBR.out
    · rw [List.take_zero, List.append_nil]; exact H0.out
  case round =>
    clear H0 G0 HT0
    obtain ⟨k, A, B, hk, rfl, hA, hBl, hB8', hBr, hH, hT', hG⟩ := hrel
    have HBl := hide hBl
    have HBr := hide hBr
    have H1 := hide hH
    have HT1 := hide hT'
    have HG := hide hG
    clear hBl hBr hH hT' hG
    by_cases hlt : k < m
    · obtain rfl := hA hlt
      clear hA
      have hmk : (M ++ L.take k).length = M.length + k := by rw [List.length_append, List.length_take, HL.out]; omega
      have HN := hide hmk
      have hu : (M ++ L.take k).length % 64 < 64 := Nat.mod_lt _ (by omega)
      obtain ⟨N, hN⟩ : ∃ N, N = M ++ L.take k := ⟨_, rfl⟩
      have HNd := hide hN
      rw [← hN] at H1 HBr hu HN
      clear hN hmk
      obtain ⟨u, hud⟩ : ∃ u, u = N.length % 64 := ⟨_, rfl⟩
      have HU := hide hud
      rw [← hud] at H1 HBr hu
      clear hud
      obtain ⟨n, hnd⟩ : ∃ n, n = min (64 - u) (m - k) := ⟨_, rfl⟩
      have hn1 : n ≤ 64 - u := by omega
      have hn2 : n ≤ m - k := by omega
      have hn0 : 0 < n := by omega
      have HND := hide hnd
      clear hnd
      have hpl := piece_length L k n (by rw [HL.out]; omega)
      obtain ⟨x, hx⟩ : ∃ x, x = piece L k n := ⟨_, rfl⟩
      have hx8 : All8 x := by rw [hx]; exact piece_all hL8 k n
      rw [← hx] at hpl
      have HX := hide hx
      have HXl := hide hpl
      clear hx hpl
      have hcu := hsh_used H1.out HBl.out
      have hsl := fun v : World => sliceL64 v g 8 u hu
      have hu0 : (0 : Int) ≤ (u : Int) := by omega
      have hu1 : (u : Int) < 64 := by omega
      go_wp2_with fail
      go_still_tail 9, (by kernel_rfl)
      have HBB := hide (take_copied B x u HBl.out (by rw [HXl.out]; omega))
      refine wpList_copy_own rfl (.tmp 25) (.tmp 26) 22 22 rfl 5 Tryd.underlying22 info_u8s g (8 + u) (64 - u) (64 - u) ⟨bb, off + k, none⟩ (m - k) (cap - k) rfl rfl (hcells (st N) B u ((M.length : Int) + (m : Int))).toArray 208 H1.out (b8 x) ?_ ?_ ?_ (b8_one x) ?_
      · rw [b8_length, HXl.out, HND.out]; exact Nat.min_comm _ _
      · intro j v hv
        obtain ⟨hj, rfl⟩ := b8_at hv
        rw [HXl.out] at hj
        rw [Addr.add_mid, HX.out, piece_getD L k n j hj, Nat.add_assoc]
        exact grown_cell (w := wr.drew) (grown_drew HG.out) (hbg (by omega)) (HC.out (k + j) (by omega))
      · rw [b8_length, HXl.out]; simp [hcells_length, HBl.out]; omega
      have H2 := hide (hsh_copied (w := wr.drew) H1.out HBl.out u x (by rw [HXl.out]; omega))
      have HG2 := hide (grown_setRow (grown_drew HG.out) ((hcells (st N) B u ((M.length : Int) + (m : Int))).take (8 + u) ++ (b8 x ++ (hcells (st N) B u ((M.length : Int) + (m : Int))).drop (8 + u + (b8 x).length))).toArray)
      have HT2 := hide (grown_tbl HG2.out hgt HT.out)
      have Hbx := hide ((b8_length x).trans HXl.out)
      have hB8n : All8 (B.take u ++ x ++ B.drop (u + x.length)) := all8_append (all8_append (all8_take hB8' _) hx8) (all8_drop hB8' _)
      show wpList _ _ _ _ (Act.put _ _ (goInt (b8 x).length)) (wr.drew.setRow g ((hcells (st N) B u ((M.length : Int) + (m : Int))).take (8 + u) ++ (b8 x ++ (hcells (st N) B u ((M.length : Int) + (m : Int))).drop (8 + u + (b8 x).length))).toArray)
      rw [Hbx.out]
      rw [Hbx.out] at H2 HG2 HT2
      clear hcu hsl H1 HT1 HG
      generalize (wr.drew.setRow g ((hcells (st N) B u ((M.length : Int) + (m : Int))).take (8 + u) ++ (b8 x ++ (hcells (st N) B u ((M.length : Int) + (m : Int))).drop (8 + u + n))).toArray) = w2 at *
      obtain ⟨B', hB'⟩ : ∃ B', B' = B.take u ++ x ++ B.drop (u + x.length) := ⟨_, rfl⟩
      rw [← hB'] at H2 HBB hB8n
      clear hB'
      have c72 := hsh_used H2.out HBB.out.1
      have f72 := blk_free (i := 72) H2.out
      obtain ⟨A', hA'⟩ : ∃ A', A' = (if cap - k = n then some (⟨bb, off + k, none⟩ : Addr) else (some (⟨bb, off + k, none⟩ : Addr)).map (·.add n)) := ⟨_, rfl⟩
      have hs2 := fun v : World => slice_from v (some ⟨bb, off + k, none⟩) (m - k) (cap - k) n hn2
      rw [← hA', show m - k - n = m - (k + n) by omega, show cap - k - n = cap - (k + n) by omega] at hs2
      have HA' := hide hA'
      clear hA'
      have HM : Hid (M ++ L.take (k + n) = N ++ x) := by
        show _ = _
        rw [HNd.out, HX.out, List.append_assoc, take_piece]
      have hsum : (0 : Int) ≤ (u : Int) + (n : Int) := by omega
      by_cases hfull : u + n = 64
      · have HF := hide (st_full N x (by rw [HXl.out, ← HU.out]; exact hfull))
        have hq : ((u : Int) + (n : Int) == 64) = true := by simp; omega
        have Hfu := hide hfull
        clear hfull
        have H3 := hide (hsh_set_used H2.out HBB.out.1 ((u : Int) + (n : Int)))
        have HG3 := hide (grown_setCell HG2.out 72 (Value.int IntKind.i64 ((u : Int) + (n : Int))))
        have HT3 := hide (grown_tbl HG3.out hgt HT.out)
        as_aux_lemma =>
          go_wp2_with fail
          clear c72 f72 hs2
          generalize (w2.setCell ⟨g, 72, none⟩ (Value.int IntKind.i64 ((u : Int) + (n : Int)))) = w3 at *
          refine (mix_c g (st N) B' _ _ w3 (st_ok N) HBB.out.1 hB8n H3.out HT3.out).mono ?_
          rintro e w4 ⟨rfl, h4, hg4⟩
          have H4 := hide h4
          have HG4 := hide (grown_trans HG3.out hg4)
          clear h4 hg4
          have c72 := hsh_used H4.out HBB.out.1
          have f72 := blk_free (i := 72) H4.out
          go_wp2
          go_roundw
          case rel =>
            refine ⟨k + n, A', B', by omega, rfl, fun h => ?_, HBB.out.1, hB8n, ?_, ?_, ?_, ?_⟩
            · rw [HA'.out, if_neg (by omega), Option.map_some, Addr.add_mid, Nat.add_assoc]
            · rw [HM.out, HF.out.2.2, HF.out.2.1]; rfl
            · rw [HM.out, HF.out.2.2, HF.out.1]
              have e := hsh_set_used H4.out HBB.out.1 0
              have e2 : B' = rest N ++ x := by
                have := HBB.out.2
                rw [List.take_of_length_le (by rw [HBB.out.1, HXl.out, Hfu.out]; omega), HBr.out] at this
                exact this
              rw [← e2]
              exact e
            · exact grown_tbl (grown_setCell HG4.out 72 _) hgt HT.out
            · exact grown_setCell HG4.out 72 _
          case measure => show m - (k + n) < m - k; omega
      · have HF := hide (st_part N x (by rw [HXl.out, ← HU.out]; omega))
        have hq : ((u : Int) + (n : Int) == 64) = false := by simp; omega
        as_aux_lemma =>
          go_wp2
          go_roundw
          case rel =>
            refine ⟨k + n, A', B', by omega, rfl, fun h => ?_, HBB.out.1, hB8n, ?_, ?_, ?_, ?_⟩
            · rw [HA'.out, if_neg (by omega), Option.map_some, Addr.add_mid, Nat.add_assoc]
            · rw [HM.out, HF.out.2.2, HF.out.2.1, ← HU.out, HBB.out.2, HBr.out]
            · rw [HM.out, HF.out.2.2, HF.out.1, ← HU.out, HXl.out]
              exact hsh_set_used H2.out HBB.out.1 ((u : Int) + (n : Int))
            · exact grown_tbl (grown_setCell HG2.out 72 _) hgt HT.out
            · exact grown_setCell HG2.out 72 _
          case measure => show m - (k + n) < m - k; omega
    · have hkm : k = m := by omega
      subst hkm
      have Hz : Hid (k - k = 0) := by show _ = _; omega
      rw [Hz.out]
      go_wp2
      refine bodyPost_end (v := .tuple #[]) (by simp [results, Tryd.results116]) rfl ⟨rfl, ⟨B, HBl.out, hB8', ?_, ?_⟩, HG.out⟩
      · have := HBr.out
        have hLL : L.take k = L := List.take_of_length_le (by rw [HL.out]; exact Nat.le_refl _)
        rwa [hLL] at this
      · have := H1.out
        have hLL : L.take k = L := List.take_of_length_le (by rw [HL.out]; exact Nat.le_refl _)
        rw [hLL] at this
        rw [show ((M ++ L).length : Int) = (M.length : Int) + (k : Int) by rw [List.length_append, HL.out]; omega]
        exact this
end Go.Proofs.YtkinpbhbgeiflaaDoor.Sw
/- bytesOf: a word as four bytes, the highest first. -/
namespace Go.Proofs.YtkinpbhbgeiflaaDoor.Sb
set_option linter.unusedVariables false
set_option linter.unusedSimpArgs false
set_option maxRecDepth 100000
open Go.ChangeShapes Go.WideShapes Go.ChangeAt Go.RowKit
open Go.Proofs.YtkinpbhbgeiflaaDoor.Wu Go.Proofs.YtkinpbhbgeiflaaDoor.Sm Go.Proofs.YtkinpbhbgeiflaaDoor.Sk Go.Proofs.YtkinpbhbgeiflaaDoor.Sc Go.Proofs.YtkinpbhbgeiflaaDoor.Sxa Go.Proofs.YtkinpbhbgeiflaaDoor.Sh

theorem info4 : (Tryd.prog.info? 235).map (·.size) = some 4 := by kernel_rfl
theorem four_is (x : Nat) (hx : x < 4294967296) : (#[Value.int IntKind.u8 ((x : Int) / 16777216), Value.int IntKind.u8 ((x : Int) / 65536 % 256), Value.int IntKind.u8 ((x : Int) / 256 % 256), Value.int IntKind.u8 ((x : Int) % 256)] : Array Value) = u8s (four x) := by
  have e : (x : Int) / 16777216 = ((x / 16777216 % 256 : Nat) : Int) := by omega
  rw [e]
  simp [u8s, four]
theorem range8_all {w : World} {B : Nat} {X : List Nat} {T : TypeId} {f : Nat × Nat} (h : w.heap[B]? = some (.cells (u8s X) T f)) : w.rangeAt B 0 (u8s X).toList := fun j v hv => by
  refine blk_cell h ?_
  simpa using hv
theorem bytesOf_c (x : Nat) (w : World) (hx : x < 4294967296) :
    Calls Tryd.prog 127 #[.int .u32 (x : Int)] w fun e w' => e = .returned (.agg (u8s (four x))) ∧ Below w.heap.size w w' := by
  go_enter Tryd.func127, Tryd.ntmps127
  go_wp2_with fail
  rw [four_is x hx]
  refine bodyPost_ret (v := .agg (u8s (four x))) ?_ rfl ⟨rfl, below_new _ _⟩
  rw [results_one_cell Tryd.results127]
  have h4 := run_loadVar_mid (P := Tryd.prog) (w.alloc (.cells (u8s (four x)) 235)) w.heap.size 0 235 (u8s (four x)).toList _ (range8_all (heap_last w _)) Tryd.underlying235 rfl (by rw [info4]; simp [u8s_size, four])
  simpa [asAddr, Act.put] using h4
end Go.Proofs.YtkinpbhbgeiflaaDoor.Sb
/- finish: the message's end, and the sum. -/
namespace Go.Proofs.YtkinpbhbgeiflaaDoor.Sf
set_option linter.unusedVariables false
set_option linter.unusedSimpArgs false
set_option maxRecDepth 100000
open Go.ChangeShapes Go.WideShapes Go.ChangeAt Go.RowKit
open Go.Proofs.YtkinpbhbgeiflaaDoor.Wu Go.Proofs.YtkinpbhbgeiflaaDoor.Sm Go.Proofs.YtkinpbhbgeiflaaDoor.Sk Go.Proofs.YtkinpbhbgeiflaaDoor.Sc Go.Proofs.YtkinpbhbgeiflaaDoor.Sxa Go.Proofs.YtkinpbhbgeiflaaDoor.Sh Go.Proofs.YtkinpbhbgeiflaaDoor.Sn Go.Proofs.YtkinpbhbgeiflaaDoor.Sw0 Go.Proofs.YtkinpbhbgeiflaaDoor.Sx Go.Proofs.YtkinpbhbgeiflaaDoor.Sw Go.Proofs.YtkinpbhbgeiflaaDoor.Sb

/-- The row in which the end is laid, behind k of the length's bytes. -/
def padL (n l k : Nat) : List Nat := 128 :: (zeros (n - 1 - k) ++ ((len8 l).drop (8 - k) ++ zeros (128 - n)))
theorem padL_length (n l k : Nat) (hn : 9 ≤ n) (hn' : n ≤ 128) (hk : k ≤ 8) : (padL n l k).length = 128 := by
  simp [padL, zeros, len8_length]; omega
theorem set_gap (z v : Nat) (T : List Nat) : (128 :: (zeros (z + 1) ++ T)).set (z + 1) v = 128 :: (zeros z ++ v :: T) := by
  rw [List.set_cons_succ]
  congr 1
  have e : zeros (z + 1) = zeros z ++ [0] := by unfold zeros; rw [List.replicate_succ']
  rw [e, List.append_assoc, List.set_append_right _ _ (by simp [zeros])]
  simp [zeros]
theorem len8_drop (l k : Nat) (hk : k < 8) : (len8 l).drop (8 - (k + 1)) = (l / 2 ^ (8 * k) % 256) :: (len8 l).drop (8 - k) := by
  match k, hk with
  | 0, _ => simp [len8]
  | 1, _ => simp [len8]
  | 2, _ => simp [len8]
  | 3, _ => simp [len8]
  | 4, _ => simp [len8]
  | 5, _ => simp [len8]
  | 6, _ => simp [len8]
  | 7, _ => simp [len8]
theorem padL_step (n l k : Nat) (hn : 9 ≤ n) (hk : k < 8) : (padL n l k).set (n - 1 - k) (l / 2 ^ (8 * k) % 256) = padL n l (k + 1) := by
  obtain ⟨z, hz⟩ : ∃ z, n - 1 - k = z + 1 := ⟨n - 2 - k, by omega⟩
  unfold padL
  rw [hz, set_gap, show n - 1 - (k + 1) = z by omega, len8_drop l k hk]
  rfl
theorem padL_end (n l : Nat) (hn : 9 ≤ n) (hn' : n ≤ 128) : (padL n l 8).take n = 128 :: (List.replicate (n - 9) 0 ++ len8 l) := by
  obtain ⟨z, rfl⟩ : ∃ z, n = z + 9 := ⟨n - 9, by omega⟩
  unfold padL
  rw [show z + 9 - 1 - 8 = z by omega, show z + 9 - 9 = z by omega, Nat.sub_self, List.drop_zero, show z + 9 = (z + 8) + 1 by omega, List.take_succ_cons, ← List.append_assoc, List.take_append_of_le_length (by simp [zeros, len8_length]), List.take_of_length_le (by simp [zeros, len8_length])]
  rfl
theorem zlit8 : (#[Value.int IntKind.u8 0, Value.int IntKind.u8 0, Value.int IntKind.u8 0, Value.int IntKind.u8 0, Value.int IntKind.u8 0, Value.int IntKind.u8 0, Value.int IntKind.u8 0, Value.int IntKind.u8 0, Value.int IntKind.u8 0, Value.int IntKind.u8 0, Value.int IntKind.u8 0, Value.int IntKind.u8 0, Value.int IntKind.u8 0, Value.int IntKind.u8 0, Value.int IntKind.u8 0, Value.int IntKind.u8 0, Value.int IntKind.u8 0, Value.int IntKind.u8 0, Value.int IntKind.u8 0, Value.int IntKind.u8 0, Value.int IntKind.u8 0, Value.int IntKind.u8 0, Value.int IntKind.u8 0, Value.int IntKind.u8 0, Value.int IntKind.u8 0, Value.int IntKind.u8 0, Value.int IntKind.u8 0, Value.int IntKind.u8 0, Value.int IntKind.u8 0, Value.int IntKind.u8 0, Value.int IntKind.u8 0, Value.int IntKind.u8 0] : Array Value) = u8s (zeros 32) := by rfl
theorem pad0 (n l : Nat) (h : 1 ≤ n) (hn : n ≤ 128) : Tryd.zeroCells234.setIfInBounds 0 (Value.int IntKind.u8 128) = u8s (padL n l 0) := by
  have e : padL n l 0 = 128 :: zeros 127 := by
    have e0 : (len8 l).drop (8 - 0) = [] := rfl
    unfold padL
    rw [e0, List.nil_append]
    simp only [zeros, List.replicate_append_replicate]
    rw [show n - 1 - 0 + (128 - n) = 127 by omega]
  have e2 : Tryd.zeroCells234.setIfInBounds 0 (Value.int IntKind.u8 128) = u8s (128 :: zeros 127) := by kernel_rfl
  rw [e, e2]
theorem alen128 : Tryd.prog.arrayLen 234 = 128 := by simp [Program.arrayLen, Tryd.underlying234]
theorem aelem128 : Tryd.prog.elem 234 = 5 := by simp [Program.elem, Tryd.underlying234]
theorem sliceH128 (u : World) (B n : Nat) (h0 : 0 < n) (hn : n ≤ 128) :
    Sem.run Tryd.prog (Instr.sliceAt 234 (.pointer (some ⟨B, 0, none⟩)) none (some (.int .i64 (n : Int))) none) u = .ok (.slice (some ⟨B, 0, none⟩) n 128) u := by
  rw [run_sliceAt_array_h u 234 ⟨B, 0, none⟩ (by rw [alen128, aelem128]; exact Tryd.underlying234) .i64 _ (by omega) (by rw [alen128]; omega), aelem128, size_u8, alen128]
  simp only [Result.andThen, slicedAt, Int.toNat_natCast, Nat.mul_one]
  rw [if_neg (by omega), Addr.add_mid]
  simp
theorem alenS : Tryd.prog.arrayLen 84 = 32 := by simp [Program.arrayLen, Tryd.underlying84]
theorem aelemS : Tryd.prog.elem 84 = 5 := by simp [Program.elem, Tryd.underlying84]
theorem sliceLS (u : World) (B n : Nat) (hn : n < 32) :
    Sem.run Tryd.prog (Instr.sliceAt 84 (.pointer (some ⟨B, 0, none⟩)) (some (.int .i64 (n : Int))) none none) u = .ok (.slice (some ⟨B, n, none⟩) (32 - n) (32 - n)) u := by
  rw [run_sliceAt_array_l u 84 ⟨B, 0, none⟩ (by rw [alenS, aelemS]; exact Tryd.underlying84) .i64 _ (by omega) (by rw [alenS]; omega), aelemS, size_u8, alenS]
  simp only [Result.andThen, slicedAt, Int.toNat_natCast, Nat.mul_one]
  rw [if_neg (by omega), Addr.add_mid]
  simp
theorem alen4 : Tryd.prog.arrayLen 235 = 4 := by simp [Program.arrayLen, Tryd.underlying235]
theorem aelem4 : Tryd.prog.elem 235 = 5 := by simp [Program.elem, Tryd.underlying235]
theorem slice4 (u : World) (B : Nat) :
    Sem.run Tryd.prog (Instr.sliceAt 235 (.pointer (some ⟨B, 0, none⟩)) none none none) u = .ok (.slice (some ⟨B, 0, none⟩) 4 4) u := by
  rw [run_sliceAt_array_all u 235 ⟨B, 0, none⟩ (by rw [alen4, aelem4]; exact Tryd.underlying235), aelem4, size_u8, alen4]
  simp only [Result.andThen, slicedAt, Nat.mul_one]
  rw [if_neg (by omega), Addr.add_mid]
theorem infoS : (Tryd.prog.info? 84).map (·.size) = some 32 := by kernel_rfl
theorem alen8 : Tryd.prog.underlying 204 = some (.array 8 108) := Tryd.underlying204
theorem index_row8 (X : List Nat) (k : Nat) (hX : X.length = 8) (hk : k < 8) (u : World) : Sem.run Tryd.prog (Instr.index 204 (.agg (u32s X)) (.int .i64 (k : Int))) u = .ok (.int .u32 ((X.getD k 0 : Nat) : Int)) u := by
  simp only [Instr.index, Sem.run_bind, asIntOf, Sem.run_pure, Result.andThen_ok, run_underlying alen8]
  rw [if_pos (by omega)]
  simp only [Sem.run_bind, size_u32, Result.andThen_ok, Int.toNat_natCast, Nat.mul_one]
  have e : (u32s X)[k]? = some (.int .u32 ((X.getD k 0 : Nat) : Int)) := u32s_at X k (by omega)
  simp [part, e, size_u32, go_sem]
theorem hsh_words {w : World} {g : Nat} {s : S8} {B : List Nat} {u l : Int} (h : Hsh w g s B u l) : w.rangeAt g 0 (u32s s.list).toList := by
  intro j v hv
  have hj : j < s.list.length := by have := (List.getElem?_eq_some_iff.1 hv).1; simpa [u32s_size] using this
  have e := hsh_state h j hj
  rw [Nat.zero_add, e]
  have := u32s_at s.list j hj
  simp only [Array.getElem?_toList] at hv
  rw [← this, hv]
/-- The sum's row behind k words. -/
def sumL (s : S8) (k : Nat) : List Nat := (bytes8 s).take (4 * k) ++ zeros (32 - 4 * k)
theorem sumL_length (s : S8) (k : Nat) (hk : k ≤ 8) : (sumL s k).length = 32 := by simp [sumL, bytes8_length, zeros]; omega
theorem sumL_step (s : S8) (k : Nat) (hk : k < 8) : (sumL s k).take (4 * k) ++ (four (s.list.getD k 0) ++ (sumL s k).drop (4 * k + 4)) = sumL s (k + 1) := by
  match k, hk with
  | 0, _ => rfl
  | 1, _ => rfl
  | 2, _ => rfl
  | 3, _ => rfl
  | 4, _ => rfl
  | 5, _ => rfl
  | 6, _ => rfl
  | 7, _ => rfl
theorem sumL_end (s : S8) : sumL s 8 = bytes8 s := rfl
theorem there8 {w : World} {B : Nat} {X : List Nat} {T : TypeId} (h : w.heap[B]? = some (.cells (u8s X) T (0, 0))) : w.there B 0 X.length := fun j hj =>
  ⟨by rw [Nat.zero_add, row8 h hj]; rfl, blk_free h⟩
theorem u8s_one (X : List Nat) : (u8s X).all (·.oneCell') = true := by
  unfold u8s
  exact all_oneCell_toArray (fun v hv => by simp only [List.mem_map] at hv; obtain ⟨z, _, rfl⟩ := hv; rfl)
theorem u8s_list (X : List Nat) : (u8s X).toList = b8 X := rfl
theorem u8s_b8 (X : List Nat) : u8s X = (b8 X).toArray := rfl
theorem tail_is (M : List Nat) (n : Nat) (hn : n = gap M.length + 9) (hb : M.length ≤ 140737488355328) : (padL n (8 * M.length) 8).take n = tail M.length := by
  have := gap_lt M.length
  rw [padL_end n _ (by omega) (by omega), tail, hn, Nat.add_sub_cancel, Nat.mod_eq_of_lt (by omega)]
theorem zlit4 : (#[Value.int IntKind.u8 0, Value.int IntKind.u8 0, Value.int IntKind.u8 0, Value.int IntKind.u8 0] : Array Value) = u8s (zeros 4) := by rfl
theorem set_all8 {w : World} {B : Nat} {T : TypeId} (X Y : List Nat) (h : w.heap[B]? = some (.cells (u8s Y) T (0, 0))) (hl : X.length = Y.length) : (w.setCells B 0 (u8s X).toList).heap[B]? = some (.cells (u8s X) T (0, 0)) := by
  have e := blk_setCells (u8s X).toList 0 w (u8s Y).toList (by simp [u8s_size]; omega) (by rw [Array.toArray_toList]; exact h)
  rw [e, List.take_zero, List.nil_append, List.drop_eq_nil_of_le (by simp [u8s_size]; omega), List.append_nil, Array.toArray_toList]
set_option maxHeartbeats 3200000 in
set_option maxRecDepth 100000 in
theorem finish_c (g : Nat) (M : List Nat) (w : World) (hT : Took w g M) (ht : Tbl w) (hM : All8 M) (hgt : g ≠ 2) (hbig : M.length ≤ 140737488355328) :
    Calls Tryd.prog 117 #[.pointer (some ⟨g, 0, none⟩)] w fun e w' => e = .returned (.agg (u8s (sha M))) ∧ w.grownBy w' (some g) := by
  have HTK := hide hT
  obtain ⟨B0, hB0, hB8, hBr, hH⟩ := hT
  have HT := hide ht
  have c72 := hsh_used hH hB0
  have c73 := hsh_len hH hB0
  have hlt := heap_lt hH
  obtain ⟨u, hud⟩ : ∃ u, u = M.length % 64 := ⟨_, rfl⟩
  have hu : u < 64 := by omega
  have HU := hide hud
  rw [← hud] at c72
  have h8 : (0 : Int) ≤ (M.length : Int) * 8 := by omega
  clear hBr hB0 hH ht hud hB8
  obtain ⟨n, hnd⟩ : ∃ n, n = gap M.length + 9 := ⟨_, rfl⟩
  have hn9 : 9 ≤ n := by omega
  have hn72 : n ≤ 72 := by have := gap_lt M.length; omega
  have HND := hide hnd
  have hE : (decide ((64 : Int) - (u : Int) < 9) = true ∧ (64 : Int) - (u : Int) + 64 = (n : Int)) ∨ (decide ((64 : Int) - (u : Int) < 9) = false ∧ (64 : Int) - (u : Int) = (n : Int)) := by
    have := HU.out
    unfold gap at hnd
    by_cases h9 : 64 - u < 9
    · exact Or.inl ⟨by simp; omega, by omega⟩
    · exact Or.inr ⟨by simp; omega, by omega⟩
  clear hnd
  have Hpad := hide (heap_2b w (.cells (u8s (zeros 32)) 84) (.cells (Tryd.zeroCells234.setIfInBounds 0 (Value.int IntKind.u8 128)) 234))
  rw [pad0 n (8 * M.length) (by omega) (by omega)] at Hpad
  have Hres := hide (heap_2a w (.cells (u8s (zeros 32)) 84) (.cells (u8s (padL n (8 * M.length) 0)) 234))
  have HB := hide (((Below.refl w.heap.size w).alloc (Nat.le_refl _) (.cells (u8s (zeros 32)) 84)).alloc (by simp) (.cells (u8s (padL n (8 * M.length) 0)) 234))
  rcases hE with ⟨hq, hE⟩ | ⟨hq, hE⟩
  all_goals
    have HE := hide hE
    clear hE
    go_enter Tryd.func117, Tryd.ntmps117
    go_wp2_with fail
    rw [HE.out, zlit8, pad0 n (8 * M.length) (by omega) (by omega)]
    clear HE hq
    generalize ((w.alloc (.cells (u8s (zeros 32)) 84)).alloc (.cells (u8s (padL n (8 * M.length) 0)) 234)) = w1 at *
    clear c72 c73
    go_loopw [26, 6] (fun i _ wr => ∃ k : Nat, k ≤ 8 ∧ i = .int .i64 k ∧ wr.heap[w.heap.size + 1]? = some (.cells (u8s (padL n (8 * M.length) k)) 234 (0, 0)) ∧ wr.heap[w.heap.size]? = some (.cells (u8s (zeros 32)) 84 (0, 0)) ∧ Below w.heap.size w wr) (fun i _ _ => 8 - (intOf i).toNat)
    case atStart => exact ⟨0, by omega, rfl, Hpad.out, Hres.out, HB.out⟩
    case round =>
      clear Hpad Hres HB
      obtain ⟨k, hk, rfl, h1, h2, hb⟩ := hrel
      have H1 := hide h1
      have H2 := hide h2
      have HB := hide hb
      clear h1 h2 hb
      by_cases hlk : k < 8
      · have hd : decide ((k : Int) < 8) = true := by simp; omega
        have i0 : (0 : Int) ≤ (n : Int) - 1 - (k : Int) := by omega
        have i1 : (n : Int) - 1 - (k : Int) < 128 := by omega
        have it : ((n : Int) - 1 - (k : Int)).toNat = n - 1 - k := by omega
        have hcx := row8 (i := n - 1 - k) H1.out (by rw [padL_length n _ k hn9 (by omega) hk]; omega)
        have hfx := blk_free (i := n - 1 - k) H1.out
        generalize (padL n (8 * M.length) k).getD (n - 1 - k) 0 = old at *
        as_aux_lemma =>
          go_wp2
          go_roundw
          case rel =>
            have e := blk_set (i := n - 1 - k) H1.out (Value.int IntKind.u8 (((8 * M.length) / 2 ^ (8 * k) % 256 : Nat) : Int))
            rw [u8s_set, padL_step n _ k hn9 hlk] at e
            have ev : (M.length : Int) * 8 / 2 ^ (8 * k) % 256 = (((8 * M.length) / 2 ^ (8 * k) % 256 : Nat) : Int) := by
              rw [Int.natCast_emod, Int.natCast_ediv, Int.natCast_mul, Int.natCast_pow, Int.mul_comm]; rfl
            refine ⟨k + 1, by omega, by go_num, ?_, blk_set_other H2.out (by omega) _, HB.out.setCell (by simp) _⟩
            rw [ev]
            exact e
          case measure => simp [intOf]; omega
      · have hk8 : k = 8 := by omega
        subst hk8
        have hsl := fun v : World => sliceH128 v (w.heap.size + 1) n (by omega) (by omega)
        have hd : decide (((8 : Nat) : Int) < 8) = false := by simp
        as_aux_lemma =>
          have HTail := hide (tail_is M n HND.out hbig)
          have Htk : Hid (Took wr g M) := by
            obtain ⟨B, h1, h2, h3, h4⟩ := HTK.out
            exact ⟨B, h1, h2, h3, below_blk HB.out hlt h4⟩
          have HTb := hide (tbl_keep HT.out HB.out (Nat.le_refl _))
          have Hsrc : Hid (SrcN wr g (some ⟨w.heap.size + 1, 0, none⟩) n (tail M.length)) := by
            refine ⟨by rw [tail_length, HND.out], all8_tail _, w.heap.size + 1, 0, fun _ => rfl, fun _ => by omega, fun i hi => ?_⟩
            have e := row8 (i := i) H1.out (by rw [padL_length n _ 8 hn9 (by omega) (by omega)]; omega)
            rw [Nat.zero_add, e, ← HTail.out]
            congr 3
            simp [List.getD, List.getElem?_take_of_lt hi]
          go_wp2_with fail
          clear hsl hd
          refine (write_c g M _ n 128 (tail M.length) wr Htk.out HTb.out Hsrc.out (by omega) hgt (by omega)).mono ?_
          rintro e w2 ⟨rfl, hTk, hG⟩
          obtain ⟨B, hBl, hB8, hBr, hHs⟩ := hTk
          have H3 : Hid (Hsh w2 g (st (padded M)) B (((M ++ tail M.length).length % 64 : Nat) : Int) ((M ++ tail M.length).length : Int)) := hHs
          have HG2 := hide (grown_trans (grown_below (World.grownBy.refl w (some g)) HB.out (Nat.le_refl _)) hG)
          have HR2 : Hid (w2.heap[w.heap.size]? = some (.cells (u8s (zeros 32)) 84 (0, 0))) := (hG.block _ (heap_lt H2.out) (fun e => by injection e; omega)).trans H2.out
          clear hBr hHs hG Htk HTb Hsrc HTail H1 H2 HB HTK HT
          obtain ⟨s, hs⟩ : ∃ s, s = st (padded M) := ⟨_, rfl⟩
          have HSS := hide hs
          rw [← hs] at H3
          clear hs
          have hsok : Hid s.ok := by rw [HSS.out]; exact st_ok _
          have HSB := hide (heap_last w2 (.cells (u8s (zeros 32)) 84))
          have HGA := hide (grown_below HG2.out (below_new w2 (.cells (u8s (zeros 32)) 84)) HG2.out.size)
          have HRA := hide (heap_old HR2.out (.cells (u8s (zeros 32)) 84))
          have hlS : w.heap.size < w2.heap.size := heap_lt HR2.out
          have Hrw := hide (World.rangeAt_alloc (hsh_words H3.out) (.cells (u8s (zeros 32)) 84))
          clear HR2 HG2 H3
          go_wp2_with (refine wpList_load_mid rfl 204 (.tmp 46) rfl g 0 rfl _ _ Hrw.out Tryd.underlying204 rfl (by rw [info8]; rfl) ?_)
          rw [Array.toArray_toList, zlit8]
          clear Hrw
          generalize hSB : w2.heap.size = SB at *
          clear hSB
          generalize (w2.alloc (.cells (u8s (zeros 32)) 84)) = w3 at *
          go_loopw [48, 8, 9, 10] (fun i _ _ _ wr => ∃ k : Nat, k ≤ 8 ∧ i = .int .i64 k ∧ wr.heap[SB]? = some (.cells (u8s (sumL s k)) 84 (0, 0)) ∧ wr.heap[w.heap.size]? = some (.cells (u8s (zeros 32)) 84 (0, 0)) ∧ w.grownBy wr (some g)) (fun i _ _ _ _ => 8 - (intOf i).toNat)
          case atStart => exact ⟨0, by omega, rfl, HSB.out, HRA.out, HGA.out⟩
          case round =>
            clear HSB HRA HGA
            obtain ⟨k, hk, rfl, h1, h2, h3⟩ := hrel
            have H1 := hide h1
            have H2 := hide h2
            have HG := hide h3
            clear h1 h2 h3
            by_cases hlk : k < 8
            · have hix := index_row8 s.list k rfl hlk
              have hb32 := all32_getD hsok.out k
              have Hst := hide (sumL_step s k hlk)
              obtain ⟨x, hx⟩ : ∃ x, x = s.list.getD k 0 := ⟨_, rfl⟩
              rw [← hx] at hix hb32 Hst
              clear hx
              have hd : decide ((k : Int) < 8) = true := by simp; omega
              have hk0 : (0 : Int) ≤ (k : Int) := by omega
              have hk1 : (k : Int) < 8 := by omega
              go_wp2_with fail
              refine (bytesOf_c x _ hb32).mono ?_
              rintro e w4 ⟨rfl, hb4⟩
              clear hix
              have hz4 := hb4.size
              have HSZ := hide (heap_lt H1.out)
              have H1a := hide (below_blk hb4 (heap_lt H1.out) H1.out)
              have H2a := hide (below_blk hb4 (heap_lt H2.out) H2.out)
              have HGa := hide (grown_below HG.out hb4 HG.out.size)
              clear hb4 H1 H2 HG
              have Hz := hide (heap_last w4 (.cells (u8s (zeros 4)) 235))
              have hlSB := heap_lt H1a.out
              go_wp2_with (refine wpList_store_mid rfl 235 (.tmp 10) (.tmp 53) rfl w4.heap.size 0 _ rfl rfl ?_ ?_ ?_ ?_)
              · rw [zlit4]
                exact there8 Hz.out
              · rw [info4]; rfl
              · exact u8s_one (four x)
              rw [zlit4]
              have Hb5 : Hid (Below w4.heap.size w4 ((w4.alloc (.cells (u8s (zeros 4)) 235)).setCells w4.heap.size 0 (u8s (four x)).toList)) := below_setCells _ _ _ _ (below_new _ _) (Nat.le_refl _)
              have H4 := hide (set_all8 (four x) (zeros 4) Hz.out rfl)
              have H1b := hide (below_blk Hb5.out hlSB H1a.out)
              have H2b := hide (below_blk Hb5.out (heap_lt H2a.out) H2a.out)
              have HGb := hide (grown_below HGa.out Hb5.out HGa.out.size)
              clear H1a H2a HGa Hz Hb5
              have hsl := fun v : World => sliceLS v SB (4 * k) (by omega)
              have hs4 := fun v : World => slice4 v w4.heap.size
              rw [show ((4 * k : Nat) : Int) = 4 * (k : Int) by omega] at hsl
              generalize ((w4.alloc (.cells (u8s (zeros 4)) 235)).setCells w4.heap.size 0 (u8s (four x)).toList) = w5 at *
              generalize w4.heap.size = FB at *
              as_aux_lemma =>
                go_wp2_with fail
                have hwr : IntKind.i64.wrap (4 * (k : Int)) = 4 * (k : Int) := IntWalk.i64_in _ (by omega)
                go_still_tail 4, (by kernel_rfl)
                refine wpList_copy_own rfl (.tmp 56) (.tmp 57) 22 22 rfl 5 Tryd.underlying22 info_u8s SB (4 * k) (32 - 4 * k) (32 - 4 * k) ⟨FB, 0, none⟩ 4 4 rfl rfl (u8s (sumL s k)) 84 H1b.out (b8 (four x)) ?_ ?_ ?_ (b8_one _) ?_
                · rw [b8_length]; show 4 = min 4 (32 - 4 * k); omega
                · intro j v hv
                  obtain ⟨hj, rfl⟩ := b8_at hv
                  rw [Addr.add_mid, Nat.zero_add]
                  exact row8 (w := w5.drew) H4.out hj
                · rw [b8_length, u8s_size, sumL_length s k hk]; show 4 * k + 4 ≤ 32; omega
                have e6 := setRow_heap w5.drew SB _ ((u8s (sumL s k)).toList.take (4 * k) ++ (b8 (four x) ++ (u8s (sumL s k)).toList.drop (4 * k + (b8 (four x)).length))).toArray _ _ H1b.out
                rw [show ((u8s (sumL s k)).toList.take (4 * k) ++ (b8 (four x) ++ (u8s (sumL s k)).toList.drop (4 * k + (b8 (four x)).length))).toArray = u8s (sumL s (k + 1)) by
                  rw [← Hst.out, u8s_list, b8_length, u8s_b8]
                  congr 1
                  simp [b8, four]] at e6 ⊢
                have H6 := hide e6
                have H2c : Hid ((w5.drew.setRow SB (u8s (sumL s (k + 1)))).heap[w.heap.size]? = some (.cells (u8s (zeros 32)) 84 (0, 0))) := (setRow_other w5.drew SB _ _ (by omega)).trans H2b.out
                have HGc : Hid (w.grownBy (w5.drew.setRow SB (u8s (sumL s (k + 1)))) (some g)) :=
                  ⟨HGb.out.os, HGb.out.tape, HGb.out.output, by have := HGb.out.size; simpa [World.setRow] using this, fun i hi hne => (setRow_other w5.drew SB i _ (by omega)).trans (HGb.out.block i hi hne)⟩
                clear e6 hsl hs4 H1b H2b HGb H4
                show wpList _ _ _ _ (Act.put _ _ (goInt 4)) (w5.drew.setRow SB (u8s (sumL s (k + 1))))
                generalize (w5.drew.setRow SB (u8s (sumL s (k + 1)))) = w6 at *
                go_wp2
                go_roundw
                case rel => exact ⟨k + 1, by omega, by go_num, H6.out, H2c.out, HGc.out⟩
                case measure => simp [intOf]; omega
            · have hk8 : k = 8 := by omega
              subst hk8
              have h1 := H1.out
              rw [sumL_end] at h1
              obtain ⟨X, hX⟩ : ∃ X, X = bytes8 s := ⟨_, rfl⟩
              have hXl : X.length = 32 := by rw [hX]; rfl
              rw [← hX] at h1
              have HX : Hid (sha M = X) := by show _ = _; rw [hX, HSS.out]; rfl
              clear hX
              have hr := hide (range8_all h1)
              have ht := hide (there8 H2.out)
              have Hsz : Hid ((u8s X).toList.length = 32) := by show _ = _; simp [u8s_size, hXl]
              have Hs2 : Hid ((u8s X).toList.toArray.size = 32) := by show _ = _; rw [Array.toArray_toList, u8s_size, hXl]
              have HXl := hide hXl
              clear h1 H1 hXl
              as_aux_lemma =>
                go_wp2_with (first
                  | (refine wpList_load_mid rfl 84 (.tmp 7) rfl SB 0 rfl _ _ hr.out Tryd.underlying84 rfl (by rw [infoS, Hsz.out]) ?_)
                  | (refine wpList_store_mid rfl 84 (.tmp 2) (.tmp 60) rfl w.heap.size 0 _ rfl rfl ?_ ?_ ?_ ?_))
                · rw [Hs2.out]; exact ht.out
                · rw [infoS, Hs2.out]
                · rw [Array.toArray_toList]; exact u8s_one _
                rw [Array.toArray_toList]
                have e := set_all8 X (zeros 32) H2.out HXl.out
                have HGd : w.grownBy (wr.setCells w.heap.size 0 (u8s X).toList) (some g) := by
                  have hb : Below w.heap.size wr (wr.setCells w.heap.size 0 (u8s X).toList) := below_setCells _ _ _ _ (Below.refl _ _) (Nat.le_refl _)
                  exact grown_below HG.out hb (Nat.le_refl _)
                refine bodyPost_ret (v := .agg (u8s (sha M))) ?_ rfl ⟨rfl, HGd⟩
                rw [results_one_cell Tryd.results117, HX.out]
                have h4 := run_loadVar_mid (P := Tryd.prog) (wr.setCells w.heap.size 0 (u8s X).toList) w.heap.size 0 84 (u8s X).toList _ (range8_all e) Tryd.underlying84 rfl (by rw [infoS, Hsz.out])
                rw [Array.toArray_toList] at h4
                simpa [asAddr, Act.put] using h4
end Go.Proofs.YtkinpbhbgeiflaaDoor.Sf
/- Of: the sum of parts, one behind the other. -/
namespace Go.Proofs.YtkinpbhbgeiflaaDoor.So
set_option linter.unusedVariables false
set_option linter.unusedSimpArgs false
set_option maxRecDepth 100000
open Go.ChangeShapes Go.WideShapes Go.ChangeAt Go.RowKit
open Go.Proofs.YtkinpbhbgeiflaaDoor.Wu Go.Proofs.YtkinpbhbgeiflaaDoor.Sm Go.Proofs.YtkinpbhbgeiflaaDoor.Sk Go.Proofs.YtkinpbhbgeiflaaDoor.Sc Go.Proofs.YtkinpbhbgeiflaaDoor.Sxa Go.Proofs.YtkinpbhbgeiflaaDoor.Sh Go.Proofs.YtkinpbhbgeiflaaDoor.Sn Go.Proofs.YtkinpbhbgeiflaaDoor.Sw0 Go.Proofs.YtkinpbhbgeiflaaDoor.Sx Go.Proofs.YtkinpbhbgeiflaaDoor.Sw Go.Proofs.YtkinpbhbgeiflaaDoor.Sb Go.Proofs.YtkinpbhbgeiflaaDoor.Sf

/-- A slice of m bytes L: nil, empty, or over cells that are there. -/
def SrcB (w : World) (a : Option Addr) (m : Nat) (L : List Nat) : Prop :=
  L.length = m ∧ All8 L ∧ ∃ b off, (0 < m → a = some ⟨b, off, none⟩) ∧ ∀ i, i < m → w.cell? ⟨b, off + i, none⟩ = some (.int .u8 ((L.getD i 0 : Nat) : Int))
theorem SrcB.nil (w : World) (a : Option Addr) : SrcB w a 0 [] := ⟨rfl, all8_nil, 0, 0, fun h => absurd h (by omega), fun i h => absurd h (by omega)⟩
theorem SrcB.below {w w' : World} {a : Option Addr} {m : Nat} {L : List Nat} (h : SrcB w a m L) (hb : Below w.heap.size w w') : SrcB w' a m L := by
  obtain ⟨h1, h2, b, off, h3, h4⟩ := h
  exact ⟨h1, h2, b, off, h3, fun i hi => keepC hb (Nat.le_refl _) (h4 i hi)⟩
/-- Read in a world that has grown, by a hasher that is new. -/
theorem SrcB.srcN {w w' : World} {a : Option Addr} {m : Nat} {L : List Nat} {g : Nat} (h : SrcB w a m L) (hb : Below w.heap.size w w') (hg : w.heap.size ≤ g) : SrcN w' g a m L := by
  obtain ⟨h1, h2, b, off, h3, h4⟩ := h
  refine ⟨h1, h2, b, off, h3, fun hm => ?_, fun i hi => keepC hb (Nat.le_refl _) (h4 i hi)⟩
  have hl : b < w.heap.size := cell_lt (h4 0 hm)
  omega
/-- A part: where it lies, how many bytes, the capacity, its bytes. -/
structure Part where
  a : Option Addr
  n : Nat
  c : Nat
  L : List Nat
def Part.val (p : Part) : Value := .slice p.a p.n p.c
def Part.ok (w : World) (p : Part) : Prop := SrcB w p.a p.n p.L ∧ p.n ≤ p.c
def flat : List Part → List Nat
  | [] => []
  | p :: ps => p.L ++ flat ps
theorem flat_append (X Y : List Part) : flat (X ++ Y) = flat X ++ flat Y := by
  induction X with
  | nil => rfl
  | cons p ps ih => simp [flat, ih]
theorem flat_snoc (X : List Part) (p : Part) : flat (X ++ [p]) = flat X ++ p.L := by rw [flat_append]; simp [flat]
/-- A slice of parts. -/
def Parts (w : World) (A : Option Addr) (Ps : List Part) : Prop :=
  ∃ b off, (0 < Ps.length → A = some ⟨b, off, none⟩) ∧ ∀ i p, Ps[i]? = some p → w.cell? ⟨b, off + i, none⟩ = some p.val ∧ p.ok w
theorem flat_all {w : World} {A : Option Addr} {Ps : List Part} (h : Parts w A Ps) : All8 (flat Ps) := by
  obtain ⟨b, off, _, h2⟩ := h
  have : ∀ (X : List Part), (∀ p ∈ X, All8 p.L) → All8 (flat X) := by
    intro X
    induction X with
    | nil => intro _; exact all8_nil
    | cons p ps ih => intro hX; exact all8_append (hX p (List.mem_cons_self ..)) (ih fun q hq => hX q (List.mem_cons_of_mem _ hq))
  refine this Ps fun p hp => ?_
  obtain ⟨i, hi, e⟩ := List.mem_iff_getElem.1 hp
  exact (h2 i p (by rw [List.getElem?_eq_getElem hi, e])).2.1.2.1
theorem flat_take_le (Ps : List Part) (k : Nat) : (flat (Ps.take k)).length ≤ (flat Ps).length := by
  have e : flat Ps = flat (Ps.take k) ++ flat (Ps.drop k) := by rw [← flat_append, List.take_append_drop]
  rw [e, List.length_append]; omega
theorem took_nil {w : World} {g : Nat} (h : Hsh w g H0 (zeros 64) 0 0) : Took w g [] := ⟨zeros 64, zeros_length _, all8_zeros 64, rfl, h⟩
theorem Took.below {w w' : World} {g N : Nat} {M : List Nat} (h : Took w g M) (hb : Below N w w') (hg : g < N) : Took w' g M := by
  obtain ⟨B, h1, h2, h3, h4⟩ := h
  exact ⟨B, h1, h2, h3, below_blk hb hg h4⟩
theorem grown_is_below {w w' : World} {g N : Nat} (h : w.grownBy w' (some g)) (hN : N ≤ g) (hs : N ≤ w.heap.size) : Below N w w' :=
  ⟨h.os, h.tape, h.output, h.size, fun k hk => h.block k (by omega) (fun e => by injection e with e; omega)⟩
/-- A sum laid into a new cell of its own. -/
theorem sum_stored (w1 : World) (X : List Nat) (hX : X.length = 32) :
    ((w1.alloc (.cells (u8s (zeros 32)) 84)).setCells w1.heap.size 0 (u8s X).toList).heap[w1.heap.size]? = some (.cells (u8s X) 84 (0, 0)) ∧
    Below w1.heap.size w1 ((w1.alloc (.cells (u8s (zeros 32)) 84)).setCells w1.heap.size 0 (u8s X).toList) :=
  ⟨set_all8 X (zeros 32) (heap_last w1 _) hX, below_setCells _ _ _ _ (below_new _ _) (Nat.le_refl _)⟩
set_option maxHeartbeats 1600000 in
set_option maxRecDepth 100000 in
theorem of_c (A : Option Addr) (cap : Nat) (Ps : List Part) (w : World) (hP : Parts w A Ps) (hT : Tbl w) (hF : Fst w) (hbig : (flat Ps).length ≤ 140737488355328) (hn : Ps.length < 4611686018427387904) :
    Calls Tryd.prog 88 #[.slice A Ps.length cap] w fun e w' => e = .returned (.agg (u8s (sha (flat Ps)))) ∧ Below w.heap.size w w' := by
  have Hall := hide (flat_all hP)
  obtain ⟨b, off, hA, hp⟩ := hP
  have HA := hide hA
  have HP := hide hp
  have HT := hide hT
  have HF := hide hF
  have HFa := hide (fst_keep hF (below_new w (.cells (u8s (zeros 32)) 84)) (Nat.le_refl _))
  have hg1 := tbl_lt hT
  clear hA hp hT hF
  go_enter Tryd.func88, Tryd.ntmps88
  go_wp2_with fail
  rw [zlit8]
  have Hb0 := hide (below_new w (.cells (u8s (zeros 32)) 84))
  have HR0 := hide (heap_last w (.cells (u8s (zeros 32)) 84))
  generalize (w.alloc (.cells (u8s (zeros 32)) 84)) = w0 at *
  refine (newHasher_c w0 HFa.out).mono ?_
  rintro e w1 ⟨rfl, hb1⟩
  have HB1 := hide (keepB hb1 (Nat.le_refl _) Hb0.out)
  have HR1 := hide (below_blk hb1 (heap_lt HR0.out) HR0.out)
  clear hb1 Hb0 HR0 HFa
  have hs1 := heap_lt HR1.out
  have Hz := hide (heap_last w1 (.cells (hcells Z8 (zeros 64) 0 0).toArray 208))
  have hzz := fun v : World => zeroH v
  go_wp2_with (refine wpList_store_mid rfl 208 (.tmp 3) (.tmp 6) rfl w1.heap.size 0 _ rfl rfl ?_ ?_ ?_ ?_)
  · have := there_cells Hz.out
    exact this
  · rw [info74]; rfl
  · exact hcells_one _ _ _ _
  have h3 := blk_setCells (hcells H0 (zeros 64) 0 0) 0 (w1.alloc (.cells (hcells Z8 (zeros 64) 0 0).toArray 208)) (hcells Z8 (zeros 64) 0 0) (by rw [hcells_length, hcells_length]; omega) Hz.out
  rw [show (hcells Z8 (zeros 64) 0 0).take 0 ++ hcells H0 (zeros 64) 0 0 ++ (hcells Z8 (zeros 64) 0 0).drop (0 + (hcells H0 (zeros 64) 0 0).length) = hcells H0 (zeros 64) 0 0 from rfl] at h3
  have Hb2 : Hid (Below w1.heap.size w1 ((w1.alloc (.cells (hcells Z8 (zeros 64) 0 0).toArray 208)).setCells w1.heap.size 0 (hcells H0 (zeros 64) 0 0))) := below_setCells _ _ _ _ (below_new _ _) (Nat.le_refl _)
  have HTk := hide (took_nil h3)
  have HB2 := hide (keepB Hb2.out (Nat.le_refl _) HB1.out)
  have HR2 := hide (below_blk Hb2.out hs1 HR1.out)
  clear h3 Hb2 HB1 HR1 Hz hzz
  generalize ((w1.alloc (.cells (hcells Z8 (zeros 64) 0 0).toArray 208)).setCells w1.heap.size 0 (hcells H0 (zeros 64) 0 0)) = w2 at *
  generalize w1.heap.size = G at *
  as_aux_lemma =>
    go_loopw [9, 5] (fun i _ wr => ∃ k : Nat, k ≤ Ps.length ∧ i = .int .i64 k ∧ Took wr G (flat (Ps.take k)) ∧ wr.heap[w.heap.size]? = some (.cells (u8s (zeros 32)) 84 (0, 0)) ∧ Below w.heap.size w wr) (fun i _ _ => Ps.length - (intOf i).toNat)
    case atStart => exact ⟨0, by omega, rfl, HTk.out, HR2.out, HB2.out⟩
    case round =>
      clear HTk HR2 HB2
      obtain ⟨k, hk, rfl, h1, h2, h3⟩ := hrel
      have H1 := hide h1
      have H2 := hide h2
      have HB := hide h3
      have HTw := hide (tbl_keep HT.out h3 (Nat.le_refl _))
      clear h1 h2 h3
      by_cases hlt : k < Ps.length
      · obtain ⟨p, hpk⟩ : ∃ p, Ps[k]? = some p := ⟨Ps[k], List.getElem?_eq_getElem hlt⟩
        obtain ⟨hc, hsrc, hpc⟩ := HP.out k p hpk
        have hcw : wr.cell? ⟨b, off + k, none⟩ = some (.slice p.a p.n p.c) := keepC HB.out (Nat.le_refl _) hc
        obtain rfl := HA.out (by omega)
        have HSn := hide (hsrc.srcN (g := G) HB.out (by omega))
        have Hf : Hid (flat (Ps.take (k + 1)) = flat (Ps.take k) ++ p.L) := by
          show _ = _
          rw [← flat_snoc, List.take_add_one, hpk]; rfl
        have hlen := flat_take_le Ps (k + 1)
        rw [Hf.out, List.length_append, hsrc.1] at hlen
        have hd : decide ((k : Int) < (Ps.length : Int)) = true := by simp; omega
        clear hpk hc hsrc
        go_wp2_with fail
        refine (write_c G _ _ p.n p.c p.L wr H1.out HTw.out HSn.out hpc (by omega) (by omega)).mono ?_
        rintro e w3 ⟨rfl, hT3, hG3⟩
        have HT3 := hide hT3
        have Hb3 := hide (grown_is_below hG3 (N := w.heap.size) (by omega) HB.out.size)
        have H23 := hide ((hG3.block _ (heap_lt H2.out) (fun e => by injection e; omega)).trans H2.out)
        clear hT3 hG3 hcw
        go_wp2
        go_roundw
        case rel => exact ⟨k + 1, by omega, by go_num, by rw [Hf.out]; exact HT3.out, H23.out, HB.out.trans Hb3.out⟩
        case measure => simp [intOf]; omega
      · have hkl : k = Ps.length := by omega
        subst hkl
        have hd : decide ((Ps.length : Int) < (Ps.length : Int)) = false := by simp
        have H1' := H1.out
        rw [List.take_length] at H1'
        have HTK := hide H1'
        clear H1 H1'
        go_wp2_with fail
        refine (finish_c G (flat Ps) wr HTK.out HTw.out Hall.out (by omega) hbig).mono ?_
        rintro e w3 ⟨rfl, hG3⟩
        have Hb3 := hide (grown_is_below hG3 (N := w.heap.size) (by omega) HB.out.size)
        have H23 := hide ((hG3.block _ (heap_lt H2.out) (fun e => by injection e; omega)).trans H2.out)
        have HB3 := hide (HB.out.trans Hb3.out)
        clear hG3 Hb3
        obtain ⟨X, hX⟩ : ∃ X, X = sha (flat Ps) := ⟨_, rfl⟩
        have HX := hide hX
        have hXl : X.length = 32 := by rw [hX]; rfl
        rw [← hX]
        clear hX
        have HXl := hide hXl
        clear hXl
        have ht := hide (there8 H23.out)
        go_wp2_with (refine wpList_store_mid rfl 84 (.tmp 2) (.tmp 16) rfl w.heap.size 0 _ rfl rfl ?_ ?_ ?_ ?_)
        · rw [u8s_size, HXl.out]; exact ht.out
        · rw [infoS, u8s_size, HXl.out]
        · exact u8s_one _
        have e := set_all8 X (zeros 32) H23.out HXl.out
        have hb : Below w.heap.size w (w3.setCells w.heap.size 0 (u8s X).toList) := below_setCells _ _ _ _ HB3.out (Nat.le_refl _)
        go_wp2_with fail
        refine bodyPost_ret (v := .agg (u8s X)) ?_ rfl ⟨by rw [HX.out], hb⟩
        rw [results_one_cell Tryd.results88]
        have h4 := run_loadVar_mid (P := Tryd.prog) (w3.setCells w.heap.size 0 (u8s X).toList) w.heap.size 0 84 (u8s X).toList _ (range8_all e) Tryd.underlying84 rfl (by rw [infoS]; simp [u8s_size, HXl.out])
        rw [Array.toArray_toList] at h4
        simpa [asAddr, Act.put] using h4
end Go.Proofs.YtkinpbhbgeiflaaDoor.So
/- Cut: the sum's first bytes. -/
namespace Go.Proofs.YtkinpbhbgeiflaaDoor.Su
set_option linter.unusedVariables false
set_option linter.unusedSimpArgs false
set_option maxRecDepth 100000
open Go.ChangeShapes Go.WideShapes Go.ChangeAt Go.RowKit
open Go.Proofs.YtkinpbhbgeiflaaDoor.Wu Go.Proofs.YtkinpbhbgeiflaaDoor.Sm Go.Proofs.YtkinpbhbgeiflaaDoor.Sk Go.Proofs.YtkinpbhbgeiflaaDoor.Sc Go.Proofs.YtkinpbhbgeiflaaDoor.Sxa Go.Proofs.YtkinpbhbgeiflaaDoor.Sh Go.Proofs.YtkinpbhbgeiflaaDoor.Sn Go.Proofs.YtkinpbhbgeiflaaDoor.Sw0 Go.Proofs.YtkinpbhbgeiflaaDoor.Sx Go.Proofs.YtkinpbhbgeiflaaDoor.Sw Go.Proofs.YtkinpbhbgeiflaaDoor.Sb Go.Proofs.YtkinpbhbgeiflaaDoor.Sf Go.Proofs.YtkinpbhbgeiflaaDoor.So

/-- The first k bytes, noughts behind them. -/
def cutL (k : Nat) (X : List Nat) : List Nat := X.take k ++ zeros (32 - k)
/-- The number of bytes that count. -/
def Cnt (n : Int) (k : Nat) : Prop := (n ≤ 0 ∧ k = 0) ∨ (0 < n ∧ n ≤ 32 ∧ n = (k : Int)) ∨ (32 < n ∧ k = 32)
theorem parts_one {w : World} {B : Nat} {T : TypeId} {a : Option Addr} {m c : Nat} {L : List Nat} (hs : SrcB w a m L) (hc : m ≤ c) (hw : w.heap[B]? = some (.cells #[.slice a m c] T (0, 0))) :
    Parts w (some ⟨B, 0, none⟩) [⟨a, m, c, L⟩] := by
  refine ⟨B, 0, fun _ => rfl, fun i p hp => ?_⟩
  match i, hp with
  | 0, hp =>
    simp only [List.getElem?_cons_zero, Option.some.injEq] at hp
    subst hp
    exact ⟨blk_cell hw rfl, hs, hc⟩
theorem flat_one (a : Option Addr) (m c : Nat) (L : List Nat) : flat [⟨a, m, c, L⟩] = L := by simp [flat]
theorem sliceAllS (u : World) (B : Nat) :
    Sem.run Tryd.prog (Instr.sliceAt 84 (.pointer (some ⟨B, 0, none⟩)) none none none) u = .ok (.slice (some ⟨B, 0, none⟩) 32 32) u := by
  rw [run_sliceAt_array_all u 84 ⟨B, 0, none⟩ (by rw [alenS, aelemS]; exact Tryd.underlying84), aelemS, size_u8, alenS]
  simp only [Result.andThen, slicedAt, Nat.mul_one]
  rw [if_neg (by omega), Addr.add_mid]
theorem sliceHS (u : World) (B k : Nat) (l : Int) (hl : l = (k : Int)) (hk : k ≤ 32) :
    Sem.run Tryd.prog (Instr.sliceAt 84 (.pointer (some ⟨B, 0, none⟩)) none (some (.int .i64 l)) none) u = .ok (.slice (some ⟨B, 0, none⟩) k 32) u := by
  subst hl
  rw [run_sliceAt_array_h u 84 ⟨B, 0, none⟩ (by rw [alenS, aelemS]; exact Tryd.underlying84) .i64 _ (by omega) (by rw [alenS]; omega), aelemS, size_u8, alenS]
  simp only [Result.andThen, slicedAt, Int.toNat_natCast, Nat.mul_one]
  rw [if_neg (by omega), Addr.add_mid]
  simp
theorem cnt_is {n : Int} {k : Nat} (h : Cnt n k) : (if 32 < (if n < 0 then 0 else n) then 32 else if n < 0 then 0 else n) = (k : Int) ∧ k ≤ 32 := by
  unfold Cnt at h
  split <;> split <;> omega
theorem cutL_is (k : Nat) (X : List Nat) (hk : k ≤ 32) (hX : X.length = 32) : ((u8s (zeros 32)).toList.take 0 ++ (b8 (X.take k) ++ (u8s (zeros 32)).toList.drop (0 + (b8 (X.take k)).length))).toArray = u8s (cutL k X) := by
  rw [b8_length, List.length_take, hX, Nat.min_eq_left hk, List.take_zero, List.nil_append, Nat.zero_add, u8s_list, u8s_b8]
  have e : (b8 (zeros 32)).drop k = b8 (zeros (32 - k)) := by unfold b8 zeros; rw [← List.map_drop, List.drop_replicate]
  rw [e]
  unfold cutL b8
  rw [List.map_append]
theorem cutL_length (k : Nat) (X : List Nat) (hk : k ≤ 32) (hX : X.length = 32) : (cutL k X).length = 32 := by simp [cutL, zeros, hX]; omega
set_option maxHeartbeats 1600000 in
set_option maxRecDepth 100000 in
theorem cut_c (n : Int) (k : Nat) (a : Option Addr) (m c : Nat) (L : List Nat) (w : World) (hk : Cnt n k) (hs : SrcB w a m L) (hc : m ≤ c) (hT : Tbl w) (hF : Fst w) (hbig : m ≤ 140737488355328) :
    Calls Tryd.prog 47 #[.int .i64 n, .slice a m c] w fun e w' => e = .returned (.agg (u8s (cutL k (sha L)))) ∧ Below w.heap.size w w' := by
  have HS := hide hs
  have HT := hide hT
  have HF := hide hF
  have hl := hs.1
  have HL := hide hl
  have HR0 := hide (heap_2a w (.cells (u8s (zeros 32)) 84) (.cells #[.slice a m c] 22))
  have HP0 := hide (heap_2b w (.cells (u8s (zeros 32)) 84) (.cells #[.slice a m c] 22))
  have HB0 := hide (((Below.refl w.heap.size w).alloc (Nat.le_refl _) (.cells (u8s (zeros 32)) 84)).alloc (by simp) (.cells #[.slice a m c] 22))
  clear hs hT hF hl
  go_enter Tryd.func47, Tryd.ntmps47
  go_wp2_with fail
  rw [zlit8]
  generalize ((w.alloc (.cells (u8s (zeros 32)) 84)).alloc (.cells #[.slice a m c] 22)) = w0 at *
  have HPs := hide (parts_one (HS.out.below HB0.out) hc HP0.out)
  refine (of_c _ _ _ w0 HPs.out (tbl_keep HT.out HB0.out (Nat.le_refl _)) (fst_keep HF.out HB0.out (Nat.le_refl _)) (by rw [flat_one, HL.out]; exact hbig) (by simp)).mono ?_
  rintro e w1 ⟨rfl, hb1⟩
  rw [flat_one]
  obtain ⟨X, hX⟩ : ∃ X, X = sha L := ⟨_, rfl⟩
  have hXl : X.length = 32 := by rw [hX]; rfl
  have HX := hide hX
  rw [← hX]
  clear hX
  have HXl := hide hXl
  clear hXl
  have HR1 := hide (below_blk hb1 (heap_lt HR0.out) HR0.out)
  have HB1 := hide (keepB hb1 (Nat.le_refl _) HB0.out)
  have hz1 := heap_lt HR1.out
  have Hz := hide (heap_last w1 (.cells (u8s (zeros 32)) 84))
  have HSt := hide (sum_stored w1 X HXl.out)
  clear hb1 HB0 HR0 HP0 HPs
  go_wp2_with (refine wpList_store_mid rfl 84 (.tmp 5) (.tmp 9) rfl w1.heap.size 0 _ rfl rfl ?_ ?_ ?_ ?_)
  · rw [u8s_size, HXl.out, zlit8]; exact there8 Hz.out
  · rw [infoS, u8s_size, HXl.out]
  · exact u8s_one _
  rw [zlit8]
  have HR2 := hide (below_blk HSt.out.2 hz1 HR1.out)
  have HB2 := hide (keepB HSt.out.2 (Nat.le_refl _) HB1.out)
  have HW2 := hide HSt.out.1
  clear HSt Hz HR1 HB1
  generalize ((w1.alloc (.cells (u8s (zeros 32)) 84)).setCells w1.heap.size 0 (u8s X).toList) = w2 at *
  generalize w1.heap.size = WB at *
  have HW3 := hide (heap_old HW2.out (.cells (u8s (zeros 32)) 84))
  have HR3 := hide (heap_old HR2.out (.cells (u8s (zeros 32)) 84))
  have HS3 := hide (heap_last w2 (.cells (u8s (zeros 32)) 84))
  have HB3 := hide (HB2.out.alloc HB2.out.size (.cells (u8s (zeros 32)) 84))
  have hz2 := heap_lt HW2.out
  clear HW2 HR2 HB2
  focus
    generalize (w2.alloc (.cells (u8s (zeros 32)) 84)) = w3 at *
    generalize w2.heap.size = SB at *
    have hsa := fun v : World => sliceAllS v SB
    have HK := hide (cnt_is hk)
    have hk32 := HK.out.2
    clear hk
    have hs0 := fun v : World => sliceHS v WB k _ HK.out.1 hk32
    go_wp2_with fail
    go_still_tail 5, (by kernel_rfl)
    refine wpList_copy_own rfl (.tmp 10) (.tmp 14) 22 22 rfl 5 Tryd.underlying22 info_u8s SB 0 32 32 ⟨WB, 0, none⟩ k 32 rfl rfl (u8s (zeros 32)) 84 HS3.out (b8 (X.take k)) ?_ ?_ ?_ (b8_one _) ?_
    · rw [b8_length, List.length_take, HXl.out]
    · intro j v hv
      obtain ⟨hj, rfl⟩ := b8_at hv
      rw [List.length_take, HXl.out] at hj
      rw [Addr.add_mid, Nat.zero_add]
      show w3.drew.cell? _ = _
      rw [row8 (w := w3.drew) (i := j) HW3.out (by rw [HXl.out]; omega)]
      congr 3
      simp [List.getD, List.getElem?_take_of_lt (show j < k by omega)]
    · rw [b8_length, List.length_take, HXl.out, u8s_size, zeros_length]; omega
    rw [cutL_is k X hk32 HXl.out]
    have H6 := hide (setRow_heap w3.drew SB _ (u8s (cutL k X)) _ _ HS3.out)
    have HR6 : Hid ((w3.drew.setRow SB (u8s (cutL k X))).heap[w.heap.size]? = some (.cells (u8s (zeros 32)) 84 (0, 0))) := (setRow_other w3.drew SB _ _ (by omega)).trans HR3.out
    have HB6 := hide (below_setRow (g := SB) HB3.out.drew (by omega) (u8s (cutL k X)))
    have HC := hide (cutL_length k X hk32 HXl.out)
    clear hs0 hsa HS3 HR3 HB3 HW3
    show wpList _ _ _ _ (Act.put _ _ (goInt (b8 (X.take k)).length)) (w3.drew.setRow SB (u8s (cutL k X)))
    generalize (w3.drew.setRow SB (u8s (cutL k X))) = w6 at *
    have HX' : Hid (cutL k (sha L) = cutL k X) := by show _ = _; rw [HX.out]
    generalize cutL k X = Y at *
    have hr := hide (range8_all H6.out)
    have ht := hide (there8 HR6.out)
    have Hsz : Hid ((u8s Y).toList.length = 32) := by show _ = _; simp [u8s_size, HC.out]
    have Hs2 : Hid ((u8s Y).toList.toArray.size = 32) := by show _ = _; rw [Array.toArray_toList, u8s_size, HC.out]
    go_wp2_with (first
      | (refine wpList_load_mid rfl 84 (.tmp 6) rfl SB 0 rfl _ _ hr.out Tryd.underlying84 rfl (by rw [infoS, Hsz.out]) ?_)
      | (refine wpList_store_mid rfl 84 (.tmp 4) (.tmp 16) rfl w.heap.size 0 _ rfl rfl ?_ ?_ ?_ ?_))
    · rw [Hs2.out]; exact ht.out
    · rw [infoS, Hs2.out]
    · rw [Array.toArray_toList]; exact u8s_one _
    all_goals
      rw [Array.toArray_toList]
      have e := set_all8 Y (zeros 32) HR6.out HC.out
      have hb : Below w.heap.size w (w6.setCells w.heap.size 0 (u8s Y).toList) := below_setCells _ _ _ _ HB6.out (Nat.le_refl _)
      refine bodyPost_ret (v := .agg (u8s Y)) ?_ rfl ⟨by rw [HX'.out], hb⟩
      rw [results_one_cell Tryd.results47]
      have h4 := run_loadVar_mid (P := Tryd.prog) (w6.setCells w.heap.size 0 (u8s Y).toList) w.heap.size 0 84 (u8s Y).toList _ (range8_all e) Tryd.underlying84 rfl (by rw [infoS, Hsz.out])
      rw [Array.toArray_toList] at h4
      simpa [asAddr, Act.put] using h4
end Go.Proofs.YtkinpbhbgeiflaaDoor.Su
/- append on slices of bytes, told by their cells: whatever the capacity is, wherever the row lies. -/
namespace Go.Proofs.YtkinpbhbgeiflaaDoor.Ap
set_option linter.unusedVariables false
set_option linter.unusedSimpArgs false
set_option maxRecDepth 100000
open Go.RowKit
open Go.Proofs.YtkinpbhbgeiflaaDoor.Wu Go.Proofs.YtkinpbhbgeiflaaDoor.Sm Go.Proofs.YtkinpbhbgeiflaaDoor.Sh Go.Proofs.YtkinpbhbgeiflaaDoor.Sc Go.Proofs.YtkinpbhbgeiflaaDoor.Sxa Go.Proofs.YtkinpbhbgeiflaaDoor.Sn Go.Proofs.YtkinpbhbgeiflaaDoor.Sw0 Go.Proofs.YtkinpbhbgeiflaaDoor.So

/-- A row of n bytes L with room for cap, from the beginning of block g on. -/
structure Dst (w : World) (g n cap : Nat) (L : List Nat) : Prop where
  len : L.length = n
  all : All8 L
  fit : n ≤ cap
  max : cap ≤ maxLen
  lt : g < w.heap.size
  cells : w.rangeAt g 0 (b8 L)
  spare : w.there g n (cap - n)
theorem Dst.below {w w' : World} {g n cap N : Nat} {L : List Nat} (h : Dst w g n cap L) (hb : Below N w w') (hg : g < N) : Dst w' g n cap L :=
  ⟨h.len, h.all, h.fit, h.max, Nat.lt_of_lt_of_le h.lt hb.size, fun j v hv => by rw [hb.cell (p := ⟨g, 0 + j, none⟩) hg]; exact h.cells j v hv,
    fun j hj => ⟨by rw [hb.cell (p := ⟨g, n + j, none⟩) hg]; exact (h.spare j hj).1, by rw [hb.frozen (p := ⟨g, n + j, none⟩) hg]; exact (h.spare j hj).2⟩⟩
theorem Dst.kept {w w' : World} {g n cap k : Nat} {L : List Nat} (h : Dst w g n cap L) (hb : w.grownBy w' (some k)) (hg : g ≠ k) : Dst w' g n cap L := by
  have e := hb.block g h.lt (fun e => hg (by injection e))
  refine ⟨h.len, h.all, h.fit, h.max, Nat.lt_of_lt_of_le h.lt hb.size, fun j v hv => by rw [World.cell?_of_block (a := ⟨g, 0 + j, none⟩) e]; exact h.cells j v hv, fun j hj => ?_⟩
  refine ⟨by rw [World.cell?_of_block (a := ⟨g, n + j, none⟩) e]; exact (h.spare j hj).1, ?_⟩
  have := (h.spare j hj).2
  unfold World.frozen? at this ⊢
  simp only at this ⊢
  rw [e]; exact this
theorem Dst.drew {w : World} {g n cap : Nat} {L : List Nat} (h : Dst w g n cap L) : Dst w.drew g n cap L := ⟨h.len, h.all, h.fit, h.max, h.lt, h.cells, h.spare⟩
theorem Dst.src {w : World} {g n cap : Nat} {L : List Nat} (h : Dst w g n cap L) : SrcB w (some ⟨g, 0, none⟩) n L :=
  ⟨h.len, h.all, g, 0, fun _ => rfl, fun i hi => h.cells i _ (by
    unfold b8
    rw [List.getElem?_map, List.getElem?_eq_getElem (by rw [h.len]; exact hi)]
    simp [List.getD, List.getElem?_eq_getElem (show i < L.length by rw [h.len]; exact hi)])⟩
theorem Dst.cell {w : World} {g n cap : Nat} {L : List Nat} (h : Dst w g n cap L) {i : Nat} (hi : i < n) : w.cell? ⟨g, i, none⟩ = some (.int .u8 ((L.getD i 0 : Nat) : Int)) := by
  obtain ⟨_, _, b, off, h3, h4⟩ := h.src
  have := h.cells i (.int .u8 ((L.getD i 0 : Nat) : Int)) (by
    unfold b8
    rw [List.getElem?_map, List.getElem?_eq_getElem (by rw [h.len]; exact hi)]
    simp [List.getD, List.getElem?_eq_getElem (show i < L.length by rw [h.len]; exact hi)])
  rwa [Nat.zero_add] at this
theorem info_bs : (Tryd.prog.info? 5).map (fun i => (i.zero, i.size, i.bytes)) = some (some (.int .u8 0), 1, 1) := by kernel_rfl
/-- A new block whose first cells are these bytes. -/
theorem dst_new (w : World) (L : List Nat) (zs : Array Value) (T : TypeId) (f : Nat × Nat) (hf : f = (0, 0) ∨ L.length + zs.size ≤ f.1) (h8 : All8 L) (hm : L.length + zs.size ≤ maxLen) : Dst (w.alloc (.cells ((b8 L).toArray ++ zs) T f)) w.heap.size L.length (L.length + zs.size) L := by
  have hh := heap_last w (.cells ((b8 L).toArray ++ zs) T f)
  refine ⟨rfl, h8, by omega, hm, by simp, fun j v hv => ?_, fun j hj => ?_⟩
  · rw [Nat.zero_add]
    refine blk_cell hh ?_
    have hj : j < (b8 L).length := (List.getElem?_eq_some_iff.1 hv).1
    rw [Array.getElem?_append_left (by simpa using hj)]
    simpa using hv
  · refine ⟨?_, ?_⟩
    · rw [blk_cell hh (x := ((b8 L).toArray ++ zs)[L.length + j]'(by simp [b8_length]; omega)) (by rw [Array.getElem?_eq_getElem])]; rfl
    · unfold World.frozen?
      simp only [hh]
      obtain ⟨lo, hi⟩ := f
      rcases hf with hf | hf
      · cases hf; simp
      · simp only [Bool.and_eq_false_iff, decide_eq_false_iff_not]
        left
        simp only at hf
        omega
theorem append_none (w : World) (ty : TypeId) (g n cap c : Nat) (hf : n ≤ cap) : (Builtin.append_ #[22, 22] ty #[.slice (some ⟨g, 0, none⟩) n cap, .slice none 0 c]).run Tryd.prog w = .ok (.slice (some ⟨g, 0, none⟩) n cap) w := by
  obtain ⟨i0, hi0, hz0, hz1, hz2⟩ := info_parts info_bs
  simp [Builtin.append_, run_underlying Tryd.underlying22, sizeOf, typeInfo, hi0, Builtin.lenOf, Builtin.firstCells, hf, storeCells]
set_option maxRecDepth 100000 in
theorem append_dst (w : World) (ty : TypeId) (g n cap : Nat) (L : List Nat) (A : Option Addr) (m c : Nat) (L' : List Nat) (hd : Dst w g n cap L) (hs : SrcB w A m L') (hbig : n + m ≤ 70368744177664) (hc : A = none → m = 0) :
    ∃ g' cap' w', (Builtin.append_ #[22, 22] ty #[.slice (some ⟨g, 0, none⟩) n cap, .slice A m c]).run Tryd.prog w = .ok (.slice (some ⟨g', 0, none⟩) (n + m) cap') w' ∧
      Dst w' g' (n + m) cap' (L ++ L') ∧ w.grownBy w' (some g) ∧ (g' = g ∨ g' = w.heap.size) := by
  obtain ⟨i0, hi0, hz0, hz1, hz2⟩ := info_parts info_bs
  obtain ⟨hl, h8, b, off, ha, hcell⟩ := hs
  cases A with
  | none =>
    obtain rfl := hc rfl
    obtain rfl : L' = [] := List.length_eq_zero_iff.1 hl
    exact ⟨g, cap, w, append_none w ty g n cap c hd.fit, by simpa using hd, World.grownBy.refl w _, .inl rfl⟩
  | some ad =>
    have hnews : ∀ j u, (b8 L')[j]? = some u → w.cell? (ad.add j) = some u := by
      intro j u hu
      obtain ⟨hj, rfl⟩ := b8_at hu
      have := ha (by omega)
      injection this with this
      subst this
      rw [Addr.add_mid]
      exact hcell j (by omega)
    by_cases hroom : n + m ≤ cap
    · have hr := run_append_room_cells (P := Tryd.prog) w 22 ty 5 i0 Tryd.underlying22 hi0 g 0 n cap ad m c (b8 L') (by rw [b8_length, hl, hz1, Nat.mul_one]) hnews (b8_one L') hroom
        (fun j hj => by rw [hz1, Nat.mul_one, Nat.zero_add]; exact (hd.spare j (by rw [b8_length] at hj; omega)).1) (fun j hj => by rw [hz1, Nat.mul_one, Nat.zero_add]; exact (hd.spare j (by rw [b8_length] at hj; omega)).2)
      rw [hz1, Nat.mul_one, Nat.zero_add] at hr
      have hth : w.there g n (b8 L').length := fun j hj => hd.spare j (by rw [b8_length] at hj; omega)
      refine ⟨g, cap, _, hr, ⟨by rw [List.length_append, hd.len, hl], all8_append hd.all h8, hroom, hd.max, ?_, ?_, ?_⟩, ?_, .inl rfl⟩
      · have : ∀ (vs : List Value) (o : Nat) (w : World), (w.setCells g o vs).heap.size = w.heap.size := by
          intro vs
          induction vs with
          | nil => intro o w; rfl
          | cons v vs ih => intro o w; rw [World.setCells, ih]; simp [World.setCell]
        rw [this]; exact hd.lt
      · intro j v hv
        have e : b8 (L ++ L') = b8 L ++ b8 L' := by unfold b8; rw [List.map_append]
        rw [e] at hv
        by_cases hj : j < (b8 L).length
        · rw [List.getElem?_append_left hj] at hv
          have h1 := World.rangeAt_setCells_apart hd.cells g n (b8 L') (by right; left; rw [b8_length, hd.len]; omega)
          exact h1 j v hv
        · rw [List.getElem?_append_right (by omega)] at hv
          have h1 := World.rangeAt_setCells_same w g n (b8 L') hth (j - (b8 L).length) v hv
          rw [b8_length, hd.len] at h1
          rw [b8_length, hd.len] at hj
          rw [Nat.zero_add, show j = n + (j - n) by omega]
          exact h1
      · intro j hj
        have h1 := World.there_setCells (b' := g) (o' := n) (n := cap - n) hd.spare g n (b8 L') (m + j) (by omega)
        rw [show n + m + j = n + (m + j) by omega]
        exact h1
      · have : ∀ (vs : List Value) (o : Nat) (u : World), u.grownBy (u.setCells g o vs) (some g) := by
          intro vs
          induction vs with
          | nil => intro o u; exact World.grownBy.refl u _
          | cons v vs ih => intro o u; rw [World.setCells]; exact grown_trans (grown_setCell (World.grownBy.refl u (some g)) o v) (ih (o + 1) _)
        exact this _ _ _
    · have hr := run_append_grow (P := Tryd.prog) w 22 ty 5 i0 (.int .u8 0) Tryd.underlying22 hi0 hz0 ⟨g, 0, none⟩ n cap (b8 L) (by rw [b8_length, hd.len, hz1, Nat.mul_one]) (fun j v hv => by rw [Addr.add_mid]; exact hd.cells j v hv) ad m c (b8 L') (by rw [b8_length, hl, hz1, Nat.mul_one]) hnews (by omega) (by omega) (growslice_fits (by omega) (by rw [hz2]; omega))
      have hge := grownCap_ge w (n + m) cap 5
      have hle := grownCap_le_maxLen w (n + m) cap 5 (by unfold maxLen; omega)
      generalize grownCap w (n + m) cap 5 = q at hr hge hle
      have hzs : (Builtin.zeroCells (Value.int .u8 0).cells (q - (n + m))).size = q - (n + m) := by rw [size_zeroCells]; simp [Value.cells]
      generalize Builtin.zeroCells (Value.int .u8 0).cells (q - (n + m)) = Z at hr hzs
      have e : (b8 L).toArray ++ (b8 L').toArray = (b8 (L ++ L')).toArray := by unfold b8; rw [List.map_append]; simp
      rw [e] at hr
      have hn := dst_new w.drew (L ++ L') Z 5 (0, 0) (.inl rfl) (all8_append hd.all h8) (by rw [List.length_append, hd.len, hl, hzs]; omega)
      rw [List.length_append, hd.len, hl, hzs, show n + m + (q - (n + m)) = q by omega] at hn
      exact ⟨w.heap.size, q, _, hr, hn, ⟨rfl, rfl, rfl, by simp, fun k hk _ => Below.heap_alloc w.drew _ k hk⟩, .inr rfl⟩
/-- append as a step of the walk. -/
theorem wpList_append_dst {w : World} {ops : Array Oper} {rest : List Oper} {o : Oper} {a : Act} {Q : Exit → Act → World → Prop} (hgd : o.guard = none) (s x : Operand)
    (ho : o.op = .call { callee := .builtin .append, args := #[s, x], argTypes := #[22, 22] }) (g n cap : Nat) (L : List Nat) (A : Option Addr) (m c : Nat) (L' : List Nat)
    (hs : a.eval s = .slice (some ⟨g, 0, none⟩) n cap) (hx : a.eval x = .slice A m c) (hd : Dst w g n cap L) (hsrc : SrcB w A m L') (hbig : n + m ≤ 70368744177664) (hc : A = none → m = 0)
    (h : ∀ g' cap' w', Hid (Dst w' g' (n + m) cap' (L ++ L')) → Hid (w.grownBy w' (some g)) → (g' = g ∨ g' = w.heap.size) → Hid (wpList Tryd.prog ops Q rest (a.put o.dst (.slice (some ⟨g', 0, none⟩) (n + m) cap')) w')) : wpList Tryd.prog ops Q (o :: rest) a w := by
  obtain ⟨g', cap', w', hrun, h1, h2, h3⟩ := append_dst w o.type g n cap L A m c L' hd hsrc hbig hc
  refine wpList_plain hgd fun K hK => ?_
  unfold Oper.wp
  simp [execOp, ho, resolve, invoke, builtin, hs, hx, hrun, Result.andThen]
  exact hK _ _ (h g' cap' w' h1 h2 h3)
end Go.Proofs.YtkinpbhbgeiflaaDoor.Ap
/- The document's spelling of the standard's functions is the standard's. Plain numbers, nothing of the program. -/
namespace Go.Proofs.YtkinpbhbgeiflaaDoor.Sr
set_option linter.unusedVariables false
set_option linter.unusedSimpArgs false
set_option maxRecDepth 100000
open Go.Proofs.YtkinpbhbgeiflaaDoor.Sm Go.Proofs.YtkinpbhbgeiflaaDoor.Sh

theorem not_is (x : Nat) (hx : x < 4294967296) : 4294967295 ^^^ x = 4294967295 - x := by
  apply Nat.eq_of_testBit_eq
  intro i
  have e : 4294967295 - x = 2 ^ 32 - (x + 1) := by omega
  rw [e, Nat.testBit_two_pow_sub_succ (by rw [pow32]; exact hx), Nat.testBit_xor, show (4294967295 : Nat) = 2 ^ 32 - 1 by decide, Nat.testBit_two_pow_sub_one]
  by_cases h : i < 32
  · simp [h]
  · have hb : x.testBit i = false := Nat.testBit_lt_two_pow (Nat.lt_of_lt_of_le (by rw [pow32]; exact hx) (Nat.pow_le_pow_right (by decide) (by omega)))
    simp [h, hb]
theorem bit_hi {x i : Nat} (hx : x < 4294967296) (h : ¬ i < 32) : x.testBit i = false := Nat.testBit_lt_two_pow (Nat.lt_of_lt_of_le (by rw [pow32]; exact hx) (Nat.pow_le_pow_right (by decide) (by omega)))
theorem chs_or (x y z : Nat) (hx : x < 4294967296) (hy : y < 4294967296) (hz : z < 4294967296) : x &&& y ||| (4294967295 - x) &&& z = chs x y z := by
  unfold chs
  rw [← not_is x hx]
  apply Nat.eq_of_testBit_eq
  intro i
  simp only [Nat.testBit_or, Nat.testBit_and, Nat.testBit_xor, show (4294967295 : Nat) = 2 ^ 32 - 1 by decide, Nat.testBit_two_pow_sub_one]
  by_cases h : i < 32
  · cases x.testBit i <;> cases y.testBit i <;> cases z.testBit i <;> simp [h]
  · simp [h, bit_hi hx h, bit_hi hy h, bit_hi hz h]
theorem maj_or (x y z : Nat) : x &&& y ||| x &&& z ||| y &&& z = maj x y z := by
  unfold maj
  apply Nat.eq_of_testBit_eq
  intro i
  simp only [Nat.testBit_or, Nat.testBit_and, Nat.testBit_xor]
  cases x.testBit i <;> cases y.testBit i <;> cases z.testBit i <;> rfl
theorem or_mod (a b : Nat) : (a ||| b) % 4294967296 = a % 4294967296 ||| b % 4294967296 := by
  rw [← pow32]
  apply Nat.eq_of_testBit_eq
  intro i
  simp only [Nat.testBit_or, Nat.testBit_mod_two_pow]
  cases decide (i < 32) <;> simp
theorem right_is (x n : Nat) (hx : x < 4294967296) : (x >>> n ||| x <<< (32 - n)) % 4294967296 = rotr x n := by
  rw [or_mod, Nat.mod_eq_of_lt (shr_lt hx)]; rfl
end Go.Proofs.YtkinpbhbgeiflaaDoor.Sr
/- Text: a sum's digits. -/
namespace Go.Proofs.YtkinpbhbgeiflaaDoor.St
set_option linter.unusedVariables false
set_option linter.unusedSimpArgs false
set_option maxRecDepth 100000
open Go.ChangeShapes Go.WideShapes Go.ChangeAt Go.RowKit
open Go.Proofs.YtkinpbhbgeiflaaDoor.Wu Go.Proofs.YtkinpbhbgeiflaaDoor.Sm Go.Proofs.YtkinpbhbgeiflaaDoor.Sk Go.Proofs.YtkinpbhbgeiflaaDoor.Sc Go.Proofs.YtkinpbhbgeiflaaDoor.Sxa Go.Proofs.YtkinpbhbgeiflaaDoor.Sh Go.Proofs.YtkinpbhbgeiflaaDoor.Sn Go.Proofs.YtkinpbhbgeiflaaDoor.Sw0 Go.Proofs.YtkinpbhbgeiflaaDoor.Sx Go.Proofs.YtkinpbhbgeiflaaDoor.Sw Go.Proofs.YtkinpbhbgeiflaaDoor.Sb Go.Proofs.YtkinpbhbgeiflaaDoor.Sf Go.Proofs.YtkinpbhbgeiflaaDoor.So

/-- A text of bytes. -/
def strN (L : List Nat) : ByteArray := strOfNums (L.map fun x : Nat => (x : Int))
/-- A digit to the base sixteen. -/
def dg (d : Nat) : Nat := [48, 49, 50, 51, 52, 53, 54, 55, 56, 57, 97, 98, 99, 100, 101, 102].getD d 0
def textL (X : List Nat) : List Nat := X.flatMap fun x => [dg (x / 16), dg (x % 16)]
theorem dg_lt (d : Nat) : dg d < 256 := by
  unfold dg
  by_cases h : d < 16
  · have : ∀ d : Fin 16, [48, 49, 50, 51, 52, 53, 54, 55, 56, 57, 97, 98, 99, 100, 101, 102].getD d.1 0 < 256 := by decide
    exact this ⟨d, h⟩
  · rw [List.getD, List.getElem?_eq_none (by simp; omega)]; decide
theorem hex_at (d : Nat) (hd : d < 16) (u : World) : Sem.run Tryd.prog (Instr.index 9 (.string ⟨#[48, 49, 50, 51, 52, 53, 54, 55, 56, 57, 97, 98, 99, 100, 101, 102]⟩) (.int .u8 (d : Int))) u = .ok (.int .u8 (dg d : Int)) u := by
  have h : d = 0 ∨ d = 1 ∨ d = 2 ∨ d = 3 ∨ d = 4 ∨ d = 5 ∨ d = 6 ∨ d = 7 ∨ d = 8 ∨ d = 9 ∨ d = 10 ∨ d = 11 ∨ d = 12 ∨ d = 13 ∨ d = 14 ∨ d = 15 := by omega
  rcases h with rfl | rfl | rfl | rfl | rfl | rfl | rfl | rfl | rfl | rfl | rfl | rfl | rfl | rfl | rfl | rfl <;> (show _ = _; kernel_rfl)
theorem hex_get (d : Nat) (h : d < (ByteArray.mk #[48, 49, 50, 51, 52, 53, 54, 55, 56, 57, 97, 98, 99, 100, 101, 102]).size) : (ByteArray.mk #[48, 49, 50, 51, 52, 53, 54, 55, 56, 57, 97, 98, 99, 100, 101, 102])[d].toNat = dg d := by
  have h16 : d < 16 := h
  have : ∀ d : Fin 16, (ByteArray.mk #[48, 49, 50, 51, 52, 53, 54, 55, 56, 57, 97, 98, 99, 100, 101, 102])[d.1].toNat = dg d.1 := by decide
  exact this ⟨d, h16⟩
theorem alS : Tryd.prog.underlying 84 = some (.array 32 5) := Tryd.underlying84
theorem index_rowS (X : List Nat) (k : Nat) (hX : X.length = 32) (hk : k < 32) (u : World) : Sem.run Tryd.prog (Instr.index 84 (.agg (u8s X)) (.int .i64 (k : Int))) u = .ok (.int .u8 ((X.getD k 0 : Nat) : Int)) u := by
  simp only [Instr.index, Sem.run_bind, asIntOf, Sem.run_pure, Result.andThen_ok, run_underlying alS]
  rw [if_pos (by omega)]
  simp only [Sem.run_bind, size_u8, Result.andThen_ok, Int.toNat_natCast, Nat.mul_one]
  have e : (u8s X)[k]? = some (.int .u8 ((X.getD k 0 : Nat) : Int)) := u8s_at X k (by omega)
  simp [part, e, size_u8, go_sem]
/-- The row behind k bytes. -/
def textR (X : List Nat) (k : Nat) : List Nat := textL (X.take k) ++ zeros (64 - 2 * k)
theorem textL_length (X : List Nat) : (textL X).length = 2 * X.length := by
  induction X with
  | nil => rfl
  | cons x l ih => simp only [textL, List.flatMap_cons, List.length_append, List.length_cons, List.length_nil] at *; omega
theorem textR_length (X : List Nat) (k : Nat) (hX : X.length = 32) (hk : k ≤ 32) : (textR X k).length = 64 := by
  rw [textR, List.length_append, textL_length, List.length_take, hX, zeros_length]; omega
theorem textR_step (X : List Nat) (k : Nat) (hX : X.length = 32) (hk : k < 32) : ((textR X k).set (2 * k) (dg (X.getD k 0 / 16))).set (2 * k + 1) (dg (X.getD k 0 % 16)) = textR X (k + 1) := by
  have h1 : (textL (X.take k)).length = 2 * k := by rw [textL_length, List.length_take, hX]; omega
  have e1 : X.take (k + 1) = X.take k ++ [X.getD k 0] := by
    rw [List.take_succ_eq_append_getElem (by omega)]; simp [List.getD, show k < X.length by omega]
  have e2 : textL (X.take (k + 1)) = textL (X.take k) ++ [dg (X.getD k 0 / 16), dg (X.getD k 0 % 16)] := by rw [e1]; simp [textL]
  have e3 : zeros (64 - 2 * k) = 0 :: 0 :: zeros (64 - 2 * (k + 1)) := by
    rw [show 64 - 2 * k = (64 - 2 * (k + 1)) + 1 + 1 by omega]; rfl
  unfold textR
  rw [e2, e3, List.set_append_right _ _ (by omega), h1, Nat.sub_self, List.set_cons_zero, List.set_append_right _ _ (by omega), h1, show 2 * k + 1 - 2 * k = 1 by omega]
  simp
theorem textR_end (X : List Nat) (hX : X.length = 32) : textR X 32 = textL X := by
  unfold textR; rw [List.take_of_length_le (by omega)]; simp [zeros]
theorem sliceAll64 (u : World) (B : Nat) :
    Sem.run Tryd.prog (Instr.sliceAt 205 (.pointer (some ⟨B, 0, none⟩)) none none none) u = .ok (.slice (some ⟨B, 0, none⟩) 64 64) u := by
  rw [run_sliceAt_array_all u 205 ⟨B, 0, none⟩ (by rw [alen64, aelem64]; exact Tryd.underlying205), aelem64, size_u8, alen64]
  simp only [Result.andThen, slicedAt, Nat.mul_one]
  rw [if_neg (by omega), Addr.add_mid]
theorem conv_row {w : World} {B off n cap : Nat} {L : List Nat} (hl : L.length = n) (hc : ∀ i, i < n → w.cell? ⟨B, off + i, none⟩ = some (.int .u8 ((L.getD i 0 : Nat) : Int))) :
    Sem.run Tryd.prog (convert 22 9 (.slice (some ⟨B, off, none⟩) n cap)) w = .ok (.string (strN L)) w :=
  run_convert_bytes_arg w 22 5 Tryd.underlying22 Tryd.underlying5 B off n cap (L.map fun x : Nat => (x : Int)) (by simp [hl]) (fun i hi => by
    rw [hc i hi]; simp [List.getD, List.getElem?_eq_getElem (show i < L.length by omega)]) 9 Tryd.underlying9
theorem zlit64 : (#[Value.int IntKind.u8 0, Value.int IntKind.u8 0, Value.int IntKind.u8 0, Value.int IntKind.u8 0, Value.int IntKind.u8 0, Value.int IntKind.u8 0, Value.int IntKind.u8 0, Value.int IntKind.u8 0, Value.int IntKind.u8 0, Value.int IntKind.u8 0, Value.int IntKind.u8 0, Value.int IntKind.u8 0, Value.int IntKind.u8 0, Value.int IntKind.u8 0, Value.int IntKind.u8 0, Value.int IntKind.u8 0, Value.int IntKind.u8 0, Value.int IntKind.u8 0, Value.int IntKind.u8 0, Value.int IntKind.u8 0, Value.int IntKind.u8 0, Value.int IntKind.u8 0, Value.int IntKind.u8 0, Value.int IntKind.u8 0, Value.int IntKind.u8 0, Value.int IntKind.u8 0, Value.int IntKind.u8 0, Value.int IntKind.u8 0, Value.int IntKind.u8 0, Value.int IntKind.u8 0, Value.int IntKind.u8 0, Value.int IntKind.u8 0, Value.int IntKind.u8 0, Value.int IntKind.u8 0, Value.int IntKind.u8 0, Value.int IntKind.u8 0, Value.int IntKind.u8 0, Value.int IntKind.u8 0, Value.int IntKind.u8 0, Value.int IntKind.u8 0, Value.int IntKind.u8 0, Value.int IntKind.u8 0, Value.int IntKind.u8 0, Value.int IntKind.u8 0, Value.int IntKind.u8 0, Value.int IntKind.u8 0, Value.int IntKind.u8 0, Value.int IntKind.u8 0, Value.int IntKind.u8 0, Value.int IntKind.u8 0, Value.int IntKind.u8 0, Value.int IntKind.u8 0, Value.int IntKind.u8 0, Value.int IntKind.u8 0, Value.int IntKind.u8 0, Value.int IntKind.u8 0, Value.int IntKind.u8 0, Value.int IntKind.u8 0, Value.int IntKind.u8 0, Value.int IntKind.u8 0, Value.int IntKind.u8 0, Value.int IntKind.u8 0, Value.int IntKind.u8 0, Value.int IntKind.u8 0] : Array Value) = u8s (zeros 64) := by rfl
end Go.Proofs.YtkinpbhbgeiflaaDoor.St
/- The reference's digits of a sum. -/
namespace Go.Proofs.YtkinpbhbgeiflaaDoor.Srt
set_option linter.unusedVariables false
set_option linter.unusedSimpArgs false
set_option maxRecDepth 100000
open Go.ChangeShapes Go.WideShapes Go.ChangeAt Go.RowKit
open Go.Proofs.YtkinpbhbgeiflaaDoor.Wu Go.Proofs.YtkinpbhbgeiflaaDoor.Sm Go.Proofs.YtkinpbhbgeiflaaDoor.Sk Go.Proofs.YtkinpbhbgeiflaaDoor.Sc Go.Proofs.YtkinpbhbgeiflaaDoor.Sxa Go.Proofs.YtkinpbhbgeiflaaDoor.Sh Go.Proofs.YtkinpbhbgeiflaaDoor.Sn Go.Proofs.YtkinpbhbgeiflaaDoor.Sw0 Go.Proofs.YtkinpbhbgeiflaaDoor.Sx Go.Proofs.YtkinpbhbgeiflaaDoor.Sw Go.Proofs.YtkinpbhbgeiflaaDoor.Sb Go.Proofs.YtkinpbhbgeiflaaDoor.Sf Go.Proofs.YtkinpbhbgeiflaaDoor.So Go.Proofs.YtkinpbhbgeiflaaDoor.St

theorem strN_append (A B : List Nat) : strN A ++ strN B = strN (A ++ B) := by
  unfold strN strOfNums
  apply ByteArray.ext
  simp [ByteArray.data_append]
theorem add_strN (A B : List Nat) (hA : A.length ≤ 8000000) (hB : B.length ≤ 8000000) (u : World) : Sem.run Tryd.prog (Op.stringOp .add (strN A) (strN B)) u = .ok (.string (strN (A ++ B))) u := by
  have h := run_string_add (P := Tryd.prog) u (strN A) (strN B) (by rw [show (strN A).size = A.length by unfold strN; rw [strOfNums_size]; simp]; omega) (by rw [show (strN B).size = B.length by unfold strN; rw [strOfNums_size]; simp]; omega)
  rw [h, strN_append]
theorem strN_nil : (strN [] : ByteArray) = ⟨#[]⟩ := rfl
theorem strN_size (A : List Nat) : (strN A).size = A.length := by unfold strN; rw [strOfNums_size]; simp
theorem textL_snoc (X : List Nat) (k : Nat) (hk : k < X.length) : textL (X.take (k + 1)) = textL (X.take k) ++ [dg (X.getD k 0 / 16), dg (X.getD k 0 % 16)] := by
  have e1 : X.take (k + 1) = X.take k ++ [X.getD k 0] := by
    rw [List.take_succ_eq_append_getElem hk]; simp [List.getD, hk]
  rw [e1]; simp [textL]
end Go.Proofs.YtkinpbhbgeiflaaDoor.Srt
