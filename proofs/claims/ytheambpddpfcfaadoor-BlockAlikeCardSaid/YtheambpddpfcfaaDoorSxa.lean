/- The hasher in the heap, and small facts on it. -/
import Derived.Test.YtheambpddpfcfaaDoorSc
namespace Go.Proofs.YtheambpddpfcfaaDoor.Sxa
set_option linter.unusedVariables false
set_option linter.unusedSimpArgs false
set_option maxRecDepth 100000
open Go.ChangeShapes Go.WideShapes Go.ChangeAt Go.RowKit
open Go.Proofs.YtheambpddpfcfaaDoor.Wu Go.Proofs.YtheambpddpfcfaaDoor.Sm Go.Proofs.YtheambpddpfcfaaDoor.Sk Go.Proofs.YtheambpddpfcfaaDoor.Sc

/-- The cells of a hasher: its state, its block, how much of it is used, how many bytes came. -/
def hcells (s : S8) (B : List Nat) (u l : Int) : List Value := (s.list.map fun x : Nat => Value.int .u32 (x : Int)) ++ (B.map fun x : Nat => Value.int .u8 (x : Int)) ++ [.int .i64 u, .int .u64 l]
/-- The same, the state told by a list. -/
def HshL (w : World) (g : Nat) (X B : List Nat) (u l : Int) : Prop := w.heap[g]? = some (.cells ((X.map fun x : Nat => Value.int .u32 (x : Int)) ++ (B.map fun x : Nat => Value.int .u8 (x : Int)) ++ [Value.int .i64 u, Value.int .u64 l]).toArray 176 (0, 0))
theorem hshl_state {w : World} {g : Nat} {X B : List Nat} {u l : Int} (h : HshL w g X B u l) (i : Nat) (hi : i < X.length) : w.cell? ⟨g, i, none⟩ = some (.int .u32 ((X.getD i 0 : Nat) : Int)) := by
  refine blk_cell h ?_
  simp [List.getElem?_append_left, hi, List.getD]
theorem hshl_set {w : World} {g : Nat} {X B : List Nat} {u l : Int} (h : HshL w g X B u l) (i x : Nat) (hi : i < X.length) : HshL (w.setCell ⟨g, i, none⟩ (.int .u32 (x : Int))) g (X.set i x) B u l := by
  have e := blk_set (i := i) h (.int .u32 (x : Int))
  rw [List.setIfInBounds_toArray, List.append_assoc, List.set_append_left _ _ (by simpa using hi)] at e
  unfold HshL
  rw [e, List.map_set, List.append_assoc]
/-- Noughts. -/
def zeros (n : Nat) : List Nat := List.replicate n 0
theorem zeros_length (n : Nat) : (zeros n).length = n := List.length_replicate ..
/-- A hasher lies in block g. -/
def Hsh (w : World) (g : Nat) (s : S8) (B : List Nat) (u l : Int) : Prop := w.heap[g]? = some (.cells (hcells s B u l).toArray 176 (0, 0))
/-- The table of words for the rounds. -/
def Tbl (w : World) : Prop := ∃ T f, w.heap[2]? = some (.cells (u32s Ks) T f)
theorem tbl_lt {w : World} (h : Tbl w) : 2 < w.heap.size := by obtain ⟨T, f, h⟩ := h; exact heap_lt h
theorem tbl_keep {N : Nat} {w w' : World} (h : Tbl w) (hb : Below N w w') (hN : w.heap.size ≤ N) : Tbl w' := by
  obtain ⟨T, f, h⟩ := h
  exact ⟨T, f, below_blk hb (Nat.lt_of_lt_of_le (heap_lt h) hN) h⟩
theorem tbl_at {w : World} (h : Tbl w) (k : Nat) (hk : k < 64) : w.cell? ⟨2, k, none⟩ = some (.int .u32 ((Ks.getD k 0 : Nat) : Int)) := by
  obtain ⟨T, f, h⟩ := h
  exact row32 h (by rw [Ks_length]; exact hk)

theorem hsh_state {w : World} {g : Nat} {s : S8} {B : List Nat} {u l : Int} (h : Hsh w g s B u l) (i : Nat) (hi : i < 8) : w.cell? ⟨g, i, none⟩ = some (.int .u32 ((s.list.getD i 0 : Nat) : Int)) := by
  refine blk_cell h ?_
  have : i < s.list.length := hi
  simp [hcells, List.getElem?_append_left, this, List.getD]
theorem hsh_range {w : World} {g : Nat} {s : S8} {B : List Nat} {u l : Int} (h : Hsh w g s B u l) : w.rangeAt g 8 (u8s B).toList := by
  intro j v hv
  refine blk_cell h ?_
  have hj : j < B.length := by have := (List.getElem?_eq_some_iff.1 hv).1; simpa [u8s_size] using this
  have e : (hcells s B u l)[8 + j]? = some v := by
    unfold hcells
    rw [List.append_assoc, List.getElem?_append_right (by simp [S8.list]), List.getElem?_append_left (by simp [S8.list]; omega)]
    simpa [S8.list, u8s] using hv
  simpa using e
theorem hsh_l {w : World} {g : Nat} {s : S8} {B : List Nat} {u l : Int} (v : S8) (h : Hsh w g s B u l) : HshL w g ((s.add v).list.take 0 ++ s.list.drop 0) B u l := by
  rw [List.take_zero, List.nil_append, List.drop_zero]
  exact h
theorem l_hsh {w : World} {g : Nat} {s : S8} {B : List Nat} {u l : Int} (v : S8) (h : HshL w g ((s.add v).list.take 8 ++ s.list.drop 8) B u l) : Hsh w g (s.add v) B u l := h
theorem info45 : (Tryd.prog.info? 173).map (·.size) = some 64 := by kernel_rfl
theorem set_list {s : S8} {B : List Nat} {u l : Int} {i x : Nat} (hi : i < 8) : (hcells s B u l).set i (.int .u32 (x : Int)) = ((s.list.set i x).map fun x : Nat => Value.int .u32 (x : Int)) ++ (B.map fun x : Nat => Value.int .u8 (x : Int)) ++ [.int .i64 u, .int .u64 l] := by
  unfold hcells
  rw [List.append_assoc, List.set_append_left _ _ (by simp [S8.list]; omega), List.map_set, List.append_assoc]

theorem one_is (v : S8) (k w : Nat) (hv : v.ok) (hk : k < 4294967296) (hw : w < 4294967296) :
    IntKind.u32.wrap (IntKind.u32.wrap (IntKind.u32.wrap (IntKind.u32.wrap ((v.h : Int) + (bS1 v.e : Int)) + (chs v.e v.f v.g : Int)) + (k : Int)) + (w : Int)) = (one v k w : Int) := by
  simp only [IntKind.wrap_u32', one]
  omega
theorem two_is (v : S8) : IntKind.u32.wrap ((bS0 v.a : Int) + (maj v.a v.b v.c : Int)) = (two v : Int) := by
  simp only [IntKind.wrap_u32', two]
  omega
theorem add_is (x y : Nat) : IntKind.u32.wrap ((x : Int) + (y : Int)) = (((x + y) % 4294967296 : Nat) : Int) := by
  simp only [IntKind.wrap_u32']
  omega
theorem alen62 : Tryd.prog.underlying 216 = some (.array 64 50) := Tryd.underlying216
theorem size_u32 (u : World) : Sem.run Tryd.prog (Go.sizeOf 50) u = .ok 1 u := by kernel_rfl
theorem index_row (X : List Nat) (k : Nat) (hX : X.length = 64) (hk : k < 64) (u : World) : Sem.run Tryd.prog (Instr.index 216 (.agg (u32s X)) (.int .i64 (k : Int))) u = .ok (.int .u32 ((X.getD k 0 : Nat) : Int)) u := by
  simp only [Instr.index, Sem.run_bind, asIntOf, Sem.run_pure, Result.andThen_ok, run_underlying alen62]
  rw [if_pos (by omega)]
  simp only [Sem.run_bind, size_u32, Result.andThen_ok, Int.toNat_natCast, Nat.mul_one]
  have e : (u32s X)[k]? = some (.int .u32 ((X.getD k 0 : Nat) : Int)) := u32s_at X k (by omega)
  simp [part, e, size_u32, go_sem]
set_option maxRecDepth 100000 in
theorem index8 (v : S8) (k : Nat) (hk : k < 8) (u : World) : Sem.run Tryd.prog (Instr.index 172 (.agg #[.int .u32 (v.a : Int), .int .u32 (v.b : Int), .int .u32 (v.c : Int), .int .u32 (v.d : Int), .int .u32 (v.e : Int), .int .u32 (v.f : Int), .int .u32 (v.g : Int), .int .u32 (v.h : Int)]) (.int .i64 (k : Int))) u = .ok (.int .u32 ((v.list.getD k 0 : Nat) : Int)) u := by
  match k, hk with
  | 0, _ => rfl
  | 1, _ => rfl
  | 2, _ => rfl
  | 3, _ => rfl
  | 4, _ => rfl
  | 5, _ => rfl
  | 6, _ => rfl
  | 7, _ => rfl
theorem part_step (s v : S8) (k : Nat) (hk : k < 8) : ((s.add v).list.take k ++ s.list.drop k).set k ((s.list.getD k 0 + v.list.getD k 0) % 4294967296) = (s.add v).list.take (k + 1) ++ s.list.drop (k + 1) := by
  match k, hk with
  | 0, _ => rfl
  | 1, _ => rfl
  | 2, _ => rfl
  | 3, _ => rfl
  | 4, _ => rfl
  | 5, _ => rfl
  | 6, _ => rfl
  | 7, _ => rfl
theorem part_at (s v : S8) (k : Nat) (hk : k < 8) : ((s.add v).list.take k ++ s.list.drop k).getD k 0 = s.list.getD k 0 := by
  match k, hk with
  | 0, _ => rfl
  | 1, _ => rfl
  | 2, _ => rfl
  | 3, _ => rfl
  | 4, _ => rfl
  | 5, _ => rfl
  | 6, _ => rfl
  | 7, _ => rfl
theorem part_len (s v : S8) (k : Nat) (hk : k ≤ 8) : ((s.add v).list.take k ++ s.list.drop k).length = 8 := by
  simp [S8.list]; omega
theorem zlit32 : (#[Value.int IntKind.u32 0, Value.int IntKind.u32 0, Value.int IntKind.u32 0, Value.int IntKind.u32 0, Value.int IntKind.u32 0, Value.int IntKind.u32 0, Value.int IntKind.u32 0, Value.int IntKind.u32 0, Value.int IntKind.u32 0, Value.int IntKind.u32 0, Value.int IntKind.u32 0, Value.int IntKind.u32 0, Value.int IntKind.u32 0, Value.int IntKind.u32 0, Value.int IntKind.u32 0, Value.int IntKind.u32 0, Value.int IntKind.u32 0, Value.int IntKind.u32 0, Value.int IntKind.u32 0, Value.int IntKind.u32 0, Value.int IntKind.u32 0, Value.int IntKind.u32 0, Value.int IntKind.u32 0, Value.int IntKind.u32 0, Value.int IntKind.u32 0, Value.int IntKind.u32 0, Value.int IntKind.u32 0, Value.int IntKind.u32 0, Value.int IntKind.u32 0, Value.int IntKind.u32 0, Value.int IntKind.u32 0, Value.int IntKind.u32 0, Value.int IntKind.u32 0, Value.int IntKind.u32 0, Value.int IntKind.u32 0, Value.int IntKind.u32 0, Value.int IntKind.u32 0, Value.int IntKind.u32 0, Value.int IntKind.u32 0, Value.int IntKind.u32 0, Value.int IntKind.u32 0, Value.int IntKind.u32 0, Value.int IntKind.u32 0, Value.int IntKind.u32 0, Value.int IntKind.u32 0, Value.int IntKind.u32 0, Value.int IntKind.u32 0, Value.int IntKind.u32 0, Value.int IntKind.u32 0, Value.int IntKind.u32 0, Value.int IntKind.u32 0, Value.int IntKind.u32 0, Value.int IntKind.u32 0, Value.int IntKind.u32 0, Value.int IntKind.u32 0, Value.int IntKind.u32 0, Value.int IntKind.u32 0, Value.int IntKind.u32 0, Value.int IntKind.u32 0, Value.int IntKind.u32 0, Value.int IntKind.u32 0, Value.int IntKind.u32 0, Value.int IntKind.u32 0, Value.int IntKind.u32 0] : Array Value) = u32s (zeros 64) := by rfl
theorem drew_facts {w w3 : World} {g gs : Nat} {s : S8} {B W : List Nat} {u l : Int} {T : TypeId} (n : Nat) (h1 : Hsh w3 g s B u l) (h2 : Tbl w3) (h3 : w.grownBy w3 (some g)) (h4 : w3.heap[gs]? = some (.cells (u32s W) T (0, 0))) :
    Hsh (w3.drewN n) g s B u l ∧ Tbl (w3.drewN n) ∧ w.grownBy (w3.drewN n) (some g) ∧ (w3.drewN n).heap[gs]? = some (.cells (u32s W) T (0, 0)) := ⟨h1, h2, ⟨h3.os, h3.tape, h3.output, h3.size, h3.block⟩, h4⟩
theorem built8 (a b c d e f g h : Int) : Tryd.prog.built 172 [(0, Value.int .u32 a), (1, Value.int .u32 b), (2, Value.int .u32 c), (3, Value.int .u32 d), (4, Value.int .u32 e), (5, Value.int .u32 f), (6, Value.int .u32 g), (7, Value.int .u32 h)] = some #[.int .u32 a, .int .u32 b, .int .u32 c, .int .u32 d, .int .u32 e, .int .u32 f, .int .u32 g, .int .u32 h] := by kernel_rfl
theorem wpList_build_to {P : Program} {ops : Array Oper} {rest : List Oper} {o : Oper} {a : Act} {w : World} {Q : Exit → Act → World → Prop} (hg : o.guard = none) (t : TypeId) (parts : Array (Nat × Operand)) (ho : o.op = .build t parts)
    (d : Option Tmp) (hd : o.dst = d) (cells : Array Value) (hf : P.built t (parts.toList.map fun (i, x) => (i, a.eval x)) = some cells)
    (h : wpList P ops Q rest (a.put d (.agg cells)) w) : wpList P ops Q (o :: rest) a w := by
  subst hd
  have hf' : P.built t (parts.map fun (i, x) => (i, a.eval x)).toList = some cells := by rw [Array.toList_map]; exact hf
  refine wpList_build hg t parts ho (by rw [hf']; rfl) ?_
  rw [hf']
  exact h
theorem wpList_build_stop {P : Program} {ops : Array Oper} {rest : List Oper} {o : Oper} {a : Act} {w : World} {Q : Exit → Act → World → Prop} (hg : o.guard = none) (t : TypeId) (parts : Array (Nat × Operand)) (ho : o.op = .build t parts)
    (h : Hid (wpList P ops Q (o :: rest) a w)) : wpList P ops Q (o :: rest) a w := h
theorem of_hid {p : Prop} (h : p) : Hid p := h
end Go.Proofs.YtheambpddpfcfaaDoor.Sxa
