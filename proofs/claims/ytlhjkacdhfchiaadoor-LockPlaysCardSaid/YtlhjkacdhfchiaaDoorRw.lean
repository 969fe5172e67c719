/- Blocks of cells loaded and stored whole, whatever they hold. For any program. -/
import Derived.Test.YtlhjkacdhfchiaaDoorRk
import Derived.Test.YtlhjkacdhfchiaaDoorRx
import Derived.Test.YtlhjkacdhfchiaaDoorBa
namespace Go.Proofs.YtlhjkacdhfchiaaDoor.Rw
set_option linter.unusedVariables false
set_option linter.unusedSimpArgs false
set_option maxRecDepth 100000
open Go.RowKit
open Go.Proofs.YtlhjkacdhfchiaaDoor.Wu Go.Proofs.YtlhjkacdhfchiaaDoor.Ba Go.Proofs.YtlhjkacdhfchiaaDoor.Rk Go.Proofs.YtlhjkacdhfchiaaDoor.Rx
theorem range_all {w : World} {b : Nat} {X : Array Value} {T : TypeId} {f : Nat × Nat} (h : w.heap[b]? = some (.cells X T f)) : w.rangeAt b 0 X.toList := fun j v hv => by
  rw [Nat.zero_add]
  exact blk_cell h (by simpa using hv)
theorem set_all {w : World} {b : Nat} {X Y : Array Value} {T : TypeId} {f : Nat × Nat} (h : w.heap[b]? = some (.cells Y T f)) (hl : X.size = Y.size) : (w.setCells b 0 X.toList).heap[b]? = some (.cells X T f) := by
  have e := blk_setCells X.toList 0 w Y.toList (by simp; omega) (by rw [Array.toArray_toList]; exact h)
  rw [e, List.take_zero, List.nil_append, List.drop_eq_nil_of_le (by simp; omega), List.append_nil, Array.toArray_toList]
theorem wpList_store_all {P : Program} {ops : Array Oper} {rest : List Oper} {op : Oper} {a : Act} {w : World} {Q : Exit → Act → World → Prop} (hgd : op.guard = none) (ty : TypeId) (x y : Operand) (ho : op.op = .store ty x y)
    (b : Nat) (X Y : Array Value) (T : TypeId) (hx : a.eval x = .pointer (some ⟨b, 0, none⟩)) (hy : a.eval y = .agg X) (hg : w.heap[b]? = some (.cells Y T (0, 0))) (hl : X.size = Y.size)
    (hi : (P.info? ty).map (·.size) = some X.size) (h1 : X.all (·.oneCell') = true)
    (h : ∀ w', Hid (w'.heap[b]? = some (.cells X T (0, 0))) → Hid (w.grownBy w' (some b)) → Hid (wpList P ops Q rest (a.put op.dst undef) w')) : wpList P ops Q (op :: rest) a w :=
  wpList_store_mid hgd ty x y ho b 0 X hx hy (by rw [hl]; exact there_all hg) hi h1 (h _ (set_all hg hl) (grown_setCells _ _ _))
theorem wpList_load_all {P : Program} {ops : Array Oper} {rest : List Oper} {op : Oper} {a : Act} {w : World} {Q : Exit → Act → World → Prop} (hgd : op.guard = none) (ty : TypeId) (x : Operand) (ho : op.op = .load ty x)
    (b : Nat) (X : Array Value) (T : TypeId) (f : Nat × Nat) (hx : a.eval x = .pointer (some ⟨b, 0, none⟩)) (hg : w.heap[b]? = some (.cells X T f)) (d : TypeDesc)
    (hu : P.underlying ty = some d) (hd : d.isRow = true) (hi : (P.info? ty).map (·.size) = some X.size)
    (h : wpList P ops Q rest (a.put op.dst (.agg X)) w) : wpList P ops Q (op :: rest) a w := by
  refine wpList_load_mid hgd ty x ho b 0 hx X.toList d (range_all hg) hu hd (by rw [Array.length_toList]; exact hi) ?_
  rw [Array.toArray_toList]
  exact h
/-- A part of a block. -/
theorem wpList_load_part {P : Program} {ops : Array Oper} {rest : List Oper} {op : Oper} {a : Act} {w : World} {Q : Exit → Act → World → Prop} (hgd : op.guard = none) (ty : TypeId) (x : Operand) (ho : op.op = .load ty x)
    (b o : Nat) (cs : List Value) (hx : a.eval x = .pointer (some ⟨b, o, none⟩)) (hg : w.rangeAt b o cs) (d : TypeDesc)
    (hu : P.underlying ty = some d) (hd : d.isRow = true) (hi : (P.info? ty).map (·.size) = some cs.length)
    (h : wpList P ops Q rest (a.put op.dst (.agg cs.toArray)) w) : wpList P ops Q (op :: rest) a w :=
  wpList_load_mid hgd ty x ho b o hx cs d hg hu hd hi h
theorem wpList_wanted {P : Program} {ops : Array Oper} {rest : List Oper} {o : Oper} {a : Act} {w : World} {Q : Exit → Act → World → Prop} (hw : Region.wanted o (yielded ops a.tmps) = true)
    (h : ∀ K : Act → World → Prop, (∀ a w, wpList P ops Q rest a w → K a w) → o.wp P a w K Q) : wpList P ops Q (o :: rest) a w :=
  wpList_step fun K hK => by simp only [hw, if_true]; exact h K hK
/-- The same where it is guarded, and wanted. -/
theorem wpList_load_partw {P : Program} {ops : Array Oper} {rest : List Oper} {op : Oper} {a : Act} {w : World} {Q : Exit → Act → World → Prop} (hw : Region.wanted op (yielded ops a.tmps) = true) (ty : TypeId) (x : Operand) (ho : op.op = .load ty x)
    (b o : Nat) (cs : List Value) (hx : a.eval x = .pointer (some ⟨b, o, none⟩)) (hg : w.rangeAt b o cs) (d : TypeDesc)
    (hu : P.underlying ty = some d) (hd : d.isRow = true) (hi : (P.info? ty).map (·.size) = some cs.length)
    (h : wpList P ops Q rest (a.put op.dst (.agg cs.toArray)) w) : wpList P ops Q (op :: rest) a w :=
  wpList_wanted hw fun K hK => wp_load_mid ty x ho b o hx cs d hg hu hd hi (hK _ _ h)
theorem wpList_load_allw {P : Program} {ops : Array Oper} {rest : List Oper} {op : Oper} {a : Act} {w : World} {Q : Exit → Act → World → Prop} (hw : Region.wanted op (yielded ops a.tmps) = true) (ty : TypeId) (x : Operand) (ho : op.op = .load ty x)
    (b : Nat) (X : Array Value) (T : TypeId) (f : Nat × Nat) (hx : a.eval x = .pointer (some ⟨b, 0, none⟩)) (hg : w.heap[b]? = some (.cells X T f)) (d : TypeDesc)
    (hu : P.underlying ty = some d) (hd : d.isRow = true) (hi : (P.info? ty).map (·.size) = some X.size)
    (h : wpList P ops Q rest (a.put op.dst (.agg X)) w) : wpList P ops Q (op :: rest) a w := by
  refine wpList_load_partw hw ty x ho b 0 X.toList hx (range_all hg) d hu hd (by rw [Array.length_toList]; exact hi) ?_
  rw [Array.toArray_toList]
  exact h
theorem load_all {P : Program} {w : World} {b : Nat} {X : Array Value} {T : TypeId} {f : Nat × Nat} (ty : TypeId) (hg : w.heap[b]? = some (.cells X T f)) (d : TypeDesc)
    (hu : P.underlying ty = some d) (hd : d.isRow = true) (hi : (P.info? ty).map (·.size) = some X.size) : Sem.run P (loadVar ty ⟨b, 0, none⟩) w = .ok (.agg X) w := by
  have h4 := run_loadVar_mid (P := P) w b 0 ty X.toList d (range_all hg) hu hd (by rw [Array.length_toList]; exact hi)
  rw [Array.toArray_toList] at h4
  exact h4
theorem kUpon_load_all {P : Program} {a : Act} {o : Oper} {u : World} {K : Value → World → Prop} (ty : TypeId) (x : Operand) (ho : o.op = .load ty x) (b : Nat) (X : Array Value) (T : TypeId) (f : Nat × Nat) (hx : a.eval x = .pointer (some ⟨b, 0, none⟩)) (hg : u.heap[b]? = some (.cells X T f)) (d : TypeDesc)
    (hu : P.underlying ty = some d) (hd : d.isRow = true) (hi : (P.info? ty).map (·.size) = some X.size) (h : K (.agg X) u) : kUpon P K ((execOp a.eval o).run P u) :=
  kUpon_load_mid ty x ho b 0 _ hx (load_all ty hg d hu hd hi) h
theorem kUpon_store_all {P : Program} {a : Act} {o : Oper} {u : World} {K : Value → World → Prop} (ty : TypeId) (x y : Operand) (ho : o.op = .store ty x y) (b : Nat) (X Y : Array Value) (T : TypeId) (hx : a.eval x = .pointer (some ⟨b, 0, none⟩)) (hy : a.eval y = .agg X)
    (hg : u.heap[b]? = some (.cells Y T (0, 0))) (hl : X.size = Y.size) (hi : (P.info? ty).map (·.size) = some X.size) (h1 : X.all (·.oneCell') = true)
    (h : ∀ w', w'.heap[b]? = some (.cells X T (0, 0)) → u.grownBy w' (some b) → K undef w') : kUpon P K ((execOp a.eval o).run P u) :=
  kUpon_store_mid ty x y ho b 0 X hx hy (by rw [hl]; exact there_all hg) hi h1 (h _ (set_all hg hl) (grown_setCells _ _ _))
/-- A builtin append, once its run is known. -/
theorem kUpon_append {P : Program} {a : Act} {o : Oper} {u u' : World} {K : Value → World → Prop} {v' : Value} (sT : TypeId) (s x : Operand) (ho : o.op = .call { callee := .builtin .append, args := #[s, x], argTypes := #[sT, sT] })
    (hrun : (Builtin.append_ #[sT, sT] o.type #[a.eval s, a.eval x]).run P u = .ok v' u') (h : K v' u') : kUpon P K ((execOp a.eval o).run P u) := by
  have e : (execOp a.eval o).run P u = .ok (.value v') u' := by
    simp [execOp, ho, resolve, invoke, builtin, hrun, Result.andThen]
  rw [e]
  exact h
theorem wpList_append_at {P : Program} {w w' : World} {ops : Array Oper} {rest : List Oper} {o : Oper} {a : Act} {Q : Exit → Act → World → Prop} {v' : Value} (hgd : o.guard = none) (sT : TypeId) (s x : Operand)
    (ho : o.op = .call { callee := .builtin .append, args := #[s, x], argTypes := #[sT, sT] })
    (hrun : (Builtin.append_ #[sT, sT] o.type #[a.eval s, a.eval x]).run P w = .ok v' w') (h : wpList P ops Q rest (a.put o.dst v') w') : wpList P ops Q (o :: rest) a w := by
  refine wpList_plain hgd fun K hK => ?_
  unfold Oper.wp
  simp [execOp, ho, resolve, invoke, builtin, hrun, Result.andThen]
  exact hK _ _ h
end Go.Proofs.YtlhjkacdhfchiaaDoor.Rw
