/- More small facts on worlds, for any program: what is kept over calls that only make memory. -/
import Derived.Test.YtpaijhmbfljfmaaDoorWu
namespace Go.Proofs.YtpaijhmbfljfmaaDoor.Wx
set_option linter.unusedVariables false
set_option linter.unusedSimpArgs false
set_option maxRecDepth 100000
open Go.RowKit
open Go.Proofs.YtpaijhmbfljfmaaDoor.Wu

theorem keepH {B k : Nat} {W u : World} {x : Obj} (hb : Below B W u) (hB : W.heap.size ≤ B) (h : W.heap[k]? = some x) : u.heap[k]? = some x :=
  below_blk hb (Nat.lt_of_lt_of_le (heap_lt h) hB) h
theorem keep3h {B k : Nat} {w W u : World} {p1 p2 p3 : Addr} {v1 v2 v3 : Value} {x : Obj} (hb : Below B W u) (hB : W.heap.size ≤ B)
    (h : W.cell? p1 = some v1 ∧ W.cell? p2 = some v2 ∧ W.cell? p3 = some v3 ∧ Below w.heap.size w W ∧ W.heap[k]? = some x) :
    u.cell? p1 = some v1 ∧ u.cell? p2 = some v2 ∧ u.cell? p3 = some v3 ∧ Below w.heap.size w u ∧ u.heap[k]? = some x :=
  ⟨keepC hb hB h.1, keepC hb hB h.2.1, keepC hb hB h.2.2.1, keepB hb hB h.2.2.2.1, keepH hb hB h.2.2.2.2⟩
theorem three_both {k : Nat} {w u : World} {p1 p2 p3 : Addr} {v1 v2 v3 : Value} {x : Obj} (h : u.cell? p1 = some v1 ∧ u.cell? p2 = some v2 ∧ u.cell? p3 = some v3 ∧ Below w.heap.size w u ∧ u.heap[k]? = some x) : Below w.heap.size w u ∧ u.heap[k]? = some x := h.2.2.2
theorem keep6h {B k : Nat} {w W u : World} {p1 p2 p3 p4 p5 p6 : Addr} {v1 v2 v3 v4 v5 v6 : Value} {x : Obj} (hb : Below B W u) (hB : W.heap.size ≤ B)
    (h : W.cell? p1 = some v1 ∧ W.cell? p2 = some v2 ∧ W.cell? p3 = some v3 ∧ W.cell? p4 = some v4 ∧ W.cell? p5 = some v5 ∧ W.cell? p6 = some v6 ∧ Below w.heap.size w W ∧ W.heap[k]? = some x) :
    u.cell? p1 = some v1 ∧ u.cell? p2 = some v2 ∧ u.cell? p3 = some v3 ∧ u.cell? p4 = some v4 ∧ u.cell? p5 = some v5 ∧ u.cell? p6 = some v6 ∧ Below w.heap.size w u ∧ u.heap[k]? = some x :=
  ⟨keepC hb hB h.1, keepC hb hB h.2.1, keepC hb hB h.2.2.1, keepC hb hB h.2.2.2.1, keepC hb hB h.2.2.2.2.1, keepC hb hB h.2.2.2.2.2.1, keepB hb hB h.2.2.2.2.2.2.1, keepH hb hB h.2.2.2.2.2.2.2⟩
end Go.Proofs.YtpaijhmbfljfmaaDoor.Wx
