/- Small facts on worlds and blocks, for any program. -/
import Derived.WalkKit
import Derived.Below
import Derived.Deep.Draws
namespace Go.Proofs.YtlhjkacdhfchiaaDoor.Wu
set_option linter.unusedVariables false
set_option linter.unusedSimpArgs false
set_option maxRecDepth 100000
open Go.RowKit

/-- A fact kept from the walk. -/
theorem hide {p : Prop} (h : p) : Hid p := h
theorem heap_last (w : World) (o : Obj) : (w.alloc o).heap[w.heap.size]? = some o := by
  show (w.heap.push o)[w.heap.size]? = _
  rw [Array.getElem?_push, if_pos rfl]
theorem heap_old {w : World} {k : Nat} {x : Obj} (h : w.heap[k]? = some x) (o : Obj) : (w.alloc o).heap[k]? = some x := by
  have hk : k < w.heap.size := (Array.getElem?_eq_some_iff.1 h).1
  rw [Below.heap_alloc w o k hk]; exact h
theorem heap_2a (w : World) (o p : Obj) : ((w.alloc o).alloc p).heap[w.heap.size]? = some o := heap_old (heap_last w o) p
theorem heap_2b (w : World) (o p : Obj) : ((w.alloc o).alloc p).heap[w.heap.size + 1]? = some p := by
  have := heap_last (w.alloc o) p
  rwa [World.size_alloc] at this
theorem heap_lt {w : World} {k : Nat} {x : Obj} (h : w.heap[k]? = some x) : k < w.heap.size := (Array.getElem?_eq_some_iff.1 h).1
theorem below_blk {B k : Nat} {w w' : World} {x : Obj} (hb : Below B w w') (hk : k < B) (h : w.heap[k]? = some x) : w'.heap[k]? = some x := (hb.block k hk).trans h
theorem below_drewN {B : Nat} {a w : World} (h : Below B a w) (n : Nat) : Below B a (w.drewN n) := ⟨h.os, h.tape, h.output, h.size, h.block⟩
theorem blk_cell {w : World} {B i : Nat} {c : Array Value} {T : TypeId} {f : Nat × Nat} {x : Value} (h : w.heap[B]? = some (.cells c T f)) (hx : c[i]? = some x) : w.cell? ⟨B, i, none⟩ = some x := by
  unfold World.cell?
  rw [h]
  simpa using hx
theorem blk_free {w : World} {B i : Nat} {c : Array Value} {T : TypeId} (h : w.heap[B]? = some (.cells c T (0, 0))) : w.frozen? ⟨B, i, none⟩ = false := by
  unfold World.frozen?
  rw [h]
  simp
theorem blk_set {w : World} {B i : Nat} {c : Array Value} {T : TypeId} {f : Nat × Nat} (h : w.heap[B]? = some (.cells c T f)) (x : Value) : (w.setCell ⟨B, i, none⟩ x).heap[B]? = some (.cells (c.setIfInBounds i x) T f) := by
  simp [World.setCell, Array.getElem?_modify, h]
theorem blk_set_other {w : World} {B k i : Nat} {y : Obj} (h : w.heap[k]? = some y) (hk : k ≠ B) (x : Value) : (w.setCell ⟨B, i, none⟩ x).heap[k]? = some y := by
  rw [Below.heap_setCell _ _ _ _ hk]; exact h
theorem cell_lt {W : World} {p : Addr} {v : Value} (h : W.cell? p = some v) : p.block < W.heap.size := by
  unfold World.cell? at h
  split at h
  · exact heap_lt (by assumption)
  · simp at h
theorem keepC {B : Nat} {W u : World} {p : Addr} {v : Value} (hb : Below B W u) (hB : W.heap.size ≤ B) (h : W.cell? p = some v) : u.cell? p = some v := by
  rw [hb.cell (Nat.lt_of_lt_of_le (cell_lt h) hB)]; exact h
theorem keepB {B : Nat} {w W u : World} (hb : Below B W u) (hB : W.heap.size ≤ B) (h : Below w.heap.size w W) : Below w.heap.size w u := h.trans (hb.mono (Nat.le_trans h.size hB))
theorem below_new (W : World) (o : Obj) : Below W.heap.size W (W.alloc o) := (Below.refl _ _).alloc (Nat.le_refl _) _
theorem keep3 {B : Nat} {w W u : World} {p1 p2 p3 : Addr} {v1 v2 v3 : Value} (hb : Below B W u) (hB : W.heap.size ≤ B)
    (h : W.cell? p1 = some v1 ∧ W.cell? p2 = some v2 ∧ W.cell? p3 = some v3 ∧ Below w.heap.size w W) :
    u.cell? p1 = some v1 ∧ u.cell? p2 = some v2 ∧ u.cell? p3 = some v3 ∧ Below w.heap.size w u :=
  ⟨keepC hb hB h.1, keepC hb hB h.2.1, keepC hb hB h.2.2.1, keepB hb hB h.2.2.2⟩
theorem keep6 {B : Nat} {w W u : World} {p1 p2 p3 p4 p5 p6 : Addr} {v1 v2 v3 v4 v5 v6 : Value} (hb : Below B W u) (hB : W.heap.size ≤ B)
    (h : W.cell? p1 = some v1 ∧ W.cell? p2 = some v2 ∧ W.cell? p3 = some v3 ∧ W.cell? p4 = some v4 ∧ W.cell? p5 = some v5 ∧ W.cell? p6 = some v6 ∧ Below w.heap.size w W) :
    u.cell? p1 = some v1 ∧ u.cell? p2 = some v2 ∧ u.cell? p3 = some v3 ∧ u.cell? p4 = some v4 ∧ u.cell? p5 = some v5 ∧ u.cell? p6 = some v6 ∧ Below w.heap.size w u :=
  ⟨keepC hb hB h.1, keepC hb hB h.2.1, keepC hb hB h.2.2.1, keepC hb hB h.2.2.2.1, keepC hb hB h.2.2.2.2.1, keepC hb hB h.2.2.2.2.2.1, keepB hb hB h.2.2.2.2.2.2⟩
theorem six_below {w u : World} {p1 p2 p3 p4 p5 p6 : Addr} {v1 v2 v3 v4 v5 v6 : Value} (h : u.cell? p1 = some v1 ∧ u.cell? p2 = some v2 ∧ u.cell? p3 = some v3 ∧ u.cell? p4 = some v4 ∧ u.cell? p5 = some v5 ∧ u.cell? p6 = some v6 ∧ Below w.heap.size w u) : Below w.heap.size w u := h.2.2.2.2.2.2
theorem three_below {w u : World} {p1 p2 p3 : Addr} {v1 v2 v3 : Value} (h : u.cell? p1 = some v1 ∧ u.cell? p2 = some v2 ∧ u.cell? p3 = some v3 ∧ Below w.heap.size w u) : Below w.heap.size w u := h.2.2.2
/-- the six facts of a block of three cells. -/
theorem blk3 {w : World} {B : Nat} {x y z : Value} {T : TypeId} (h : w.heap[B]? = some (.cells #[x, y, z] T (0, 0))) :
    w.cell? ⟨B, 0, none⟩ = some x ∧ w.cell? ⟨B, 1, none⟩ = some y ∧ w.cell? ⟨B, 2, none⟩ = some z ∧ w.frozen? ⟨B, 0, none⟩ = false ∧ w.frozen? ⟨B, 1, none⟩ = false ∧ w.frozen? ⟨B, 2, none⟩ = false :=
  ⟨blk_cell h rfl, blk_cell h rfl, blk_cell h rfl, blk_free h, blk_free h, blk_free h⟩
theorem blk3_set {w : World} {B : Nat} {x y z : Value} {T : TypeId} (h : w.heap[B]? = some (.cells #[x, y, z] T (0, 0))) (a b c : Value) :
    (((w.setCell ⟨B, 0, none⟩ a).setCell ⟨B, 1, none⟩ b).setCell ⟨B, 2, none⟩ c).heap[B]? = some (.cells #[a, b, c] T (0, 0)) := by
  have := blk_set (i := 2) (blk_set (i := 1) (blk_set (i := 0) h a) b) c
  simpa using this
theorem below_set3 {w u : World} {N B : Nat} (h : Below N u w) (hB : N ≤ B) (a b c : Value) :
    Below N u (((w.setCell ⟨B, 0, none⟩ a).setCell ⟨B, 1, none⟩ b).setCell ⟨B, 2, none⟩ c) := ((h.setCell hB _).setCell hB _).setCell hB _
end Go.Proofs.YtlhjkacdhfchiaaDoor.Wu
