/- Rows of bytes that are known whole: stored, loaded, returned. -/
import Derived.Test.YtpaijhmbfljfmaaDoorSf
namespace Go.Proofs.YtpaijhmbfljfmaaDoor.Sv
set_option linter.unusedVariables false
set_option linter.unusedSimpArgs false
set_option maxRecDepth 100000
open Go.ChangeShapes Go.WideShapes Go.ChangeAt Go.RowKit
open Go.Proofs.YtpaijhmbfljfmaaDoor.Wu Go.Proofs.YtpaijhmbfljfmaaDoor.Sm Go.Proofs.YtpaijhmbfljfmaaDoor.Sk Go.Proofs.YtpaijhmbfljfmaaDoor.Sc Go.Proofs.YtpaijhmbfljfmaaDoor.Sxa Go.Proofs.YtpaijhmbfljfmaaDoor.Sh Go.Proofs.YtpaijhmbfljfmaaDoor.Sn Go.Proofs.YtpaijhmbfljfmaaDoor.Sw0 Go.Proofs.YtpaijhmbfljfmaaDoor.Sx Go.Proofs.YtpaijhmbfljfmaaDoor.Sw Go.Proofs.YtpaijhmbfljfmaaDoor.Sb Go.Proofs.YtpaijhmbfljfmaaDoor.Sf

theorem setCells_other {B k : Nat} (hk : k ≠ B) : ∀ (vs : List Value) (o : Nat) (w : World), (w.setCells B o vs).heap[k]? = w.heap[k]?
  | [], _, _ => rfl
  | v :: vs, o, w => by
    rw [World.setCells, setCells_other hk vs (o + 1)]
    exact Below.heap_setCell _ _ _ _ hk
theorem grown_setCells {B : Nat} : ∀ (vs : List Value) (o : Nat) (w : World), w.grownBy (w.setCells B o vs) (some B)
  | [], _, w => World.grownBy.refl w _
  | v :: vs, o, w => by
    rw [World.setCells]
    exact grown_trans (grown_setCell (World.grownBy.refl w (some B)) o v) (grown_setCells vs (o + 1) _)
theorem wpList_store_whole {P : Program} {ops : Array Oper} {rest : List Oper} {op : Oper} {a : Act} {w : World} {Q : Exit → Act → World → Prop} (hgd : op.guard = none) (ty : TypeId) (x y : Operand) (ho : op.op = .store ty x y)
    (b : Nat) (X Y : List Nat) (T : TypeId) (hx : a.eval x = .pointer (some ⟨b, 0, none⟩)) (hy : a.eval y = .agg (u8s X)) (hg : w.heap[b]? = some (.cells (u8s Y) T (0, 0))) (hl : X.length = Y.length)
    (hi : (P.info? ty).map (·.size) = some X.length)
    (h : ∀ w', Hid (w'.heap[b]? = some (.cells (u8s X) T (0, 0))) → Hid (w.grownBy w' (some b)) → Hid (wpList P ops Q rest (a.put op.dst undef) w')) : wpList P ops Q (op :: rest) a w :=
  wpList_store_mid hgd ty x y ho b 0 (u8s X) hx hy (by rw [u8s_size, hl]; exact there8 hg) (by rw [u8s_size]; exact hi) (u8s_one X) (h _ (set_all8 X Y hg hl) (grown_setCells _ _ _))
theorem wpList_load_whole {P : Program} {ops : Array Oper} {rest : List Oper} {op : Oper} {a : Act} {w : World} {Q : Exit → Act → World → Prop} (hgd : op.guard = none) (ty : TypeId) (x : Operand) (ho : op.op = .load ty x)
    (b : Nat) (X : List Nat) (T : TypeId) (f : Nat × Nat) (hx : a.eval x = .pointer (some ⟨b, 0, none⟩)) (hg : w.heap[b]? = some (.cells (u8s X) T f)) (d : TypeDesc)
    (hu : P.underlying ty = some d) (hd : d.isRow = true) (hi : (P.info? ty).map (·.size) = some X.length)
    (h : wpList P ops Q rest (a.put op.dst (.agg (u8s X))) w) : wpList P ops Q (op :: rest) a w := by
  refine wpList_load_mid hgd ty x ho b 0 hx (u8s X).toList d (range8_all hg) hu hd (by rw [Array.length_toList, u8s_size]; exact hi) ?_
  rw [Array.toArray_toList]
  exact h
theorem ret_whole {P : Program} {fn : Func} {p : Tmp} {ty : TypeId} {R : Ending → World → Prop} {a : Act} {w : World} (hr : fn.results = #[.cell p ty]) (b : Nat) (X : List Nat) (T : TypeId) (f : Nat × Nat) (hp : a.tmps.getD p undef = .pointer (some ⟨b, 0, none⟩))
    (hg : w.heap[b]? = some (.cells (u8s X) T f)) (d : TypeDesc) (hu : P.underlying ty = some d) (hd : d.isRow = true) (hi : (P.info? ty).map (·.size) = some X.length) (hde : a.defers = []) (h : R (.returned (.agg (u8s X))) w) : bodyPost P fn R .ret a w := by
  refine bodyPost_ret (v := .agg (u8s X)) ?_ hde h
  rw [results_one_cell hr, hp]
  have h4 := run_loadVar_mid (P := P) w b 0 ty (u8s X).toList d (range8_all hg) hu hd (by rw [Array.length_toList, u8s_size]; exact hi)
  rw [Array.toArray_toList] at h4
  simpa [asAddr] using h4
/-- A block other than the one that turned. -/
theorem keepG {w w' : World} {g k : Nat} {x : Obj} (h : w.grownBy w' (some g)) (hk : k ≠ g) (hx : w.heap[k]? = some x) : w'.heap[k]? = some x :=
  (h.block k (heap_lt hx) (fun e => hk (by injection e))).trans hx
theorem belowG {w0 w w' : World} {g N : Nat} (hb : Below N w0 w) (h : w.grownBy w' (some g)) (hN : N ≤ g) (hs : N ≤ w.heap.size) : Below N w0 w' :=
  hb.trans ⟨h.os, h.tape, h.output, h.size, fun k hk => h.block k (by omega) (fun e => by injection e with e; omega)⟩
end Go.Proofs.YtpaijhmbfljfmaaDoor.Sv
