/- Structs and slices of one element built of parts that are themselves rows. For any program. -/
import Derived.Great.BuildSlice
import Derived.Test.YtheambpddpfcfaaDoorRk
namespace Go.Proofs.YtheambpddpfcfaaDoor.Rb1
set_option linter.unusedVariables false
set_option linter.unusedSimpArgs false
open Go.Proofs.YtheambpddpfcfaaDoor.Rk
/-- A row laid into a row. -/
def spl (X : List Value) (o : Nat) (V : List Value) : List Value := X.take o ++ V ++ X.drop (o + V.length)
theorem spl_length (X V : List Value) (o : Nat) (h : o + V.length ≤ X.length) : (spl X o V).length = X.length := by
  simp [spl]; omega
theorem fold_put : ∀ (V : List Value) (k o : Nat) (X : List Value), o + k + V.length ≤ X.length →
    (V.zipIdx k).foldl (fun (cs : Array Value) (x : Value × Nat) => cs.setIfInBounds (o + x.2) x.1) X.toArray = (spl X (o + k) V).toArray
  | [], k, o, X, _ => by simp [spl]
  | v :: V, k, o, X, h => by
    simp only [List.length_cons] at h
    rw [List.zipIdx_cons, List.foldl_cons, List.setIfInBounds_toArray]
    have ih := fold_put V (k + 1) o (X.set (o + k) v) (by rw [List.length_set]; omega)
    rw [ih]
    congr 1
    unfold spl
    rw [List.set_eq_take_append_cons_drop, if_pos (by omega)]
    have hA : (X.take (o + k)).length = o + k := by rw [List.length_take]; omega
    have e1 : (X.take (o + k) ++ v :: X.drop (o + k + 1)).take (o + (k + 1)) = X.take (o + k) ++ [v] := by
      rw [List.take_append, hA, List.take_of_length_le (by omega), show o + (k + 1) - (o + k) = 1 by omega]; rfl
    have e2 : (X.take (o + k) ++ v :: X.drop (o + k + 1)).drop (o + (k + 1) + V.length) = X.drop (o + k + (V.length + 1)) := by
      rw [List.drop_append, hA, List.drop_eq_nil_of_le (by omega), show o + (k + 1) + V.length - (o + k) = V.length + 1 by omega, List.drop_succ_cons, List.drop_drop, List.nil_append]
      congr 1; omega
    rw [e1, e2]
    simp
theorem fill_nil (place : Nat → Option (Nat × Nat)) (X : List Value) : Instr.fill place X.toArray [] = some X.toArray := rfl
theorem fill_step (place : Nat → Option (Nat × Nat)) (X V : List Value) (i off size : Nat) (v : Value) (rest : List (Nat × Value)) (hp : place i = some (off, size)) (hv : v.cells = V.toArray) (hs : V.length = size) (hl : off + size ≤ X.length) :
    Instr.fill place X.toArray ((i, v) :: rest) = Instr.fill place (spl X off V).toArray rest := by
  subst hs
  rw [Instr.fill, hp]
  simp only [hv]
  rw [if_neg (by simp; omega)]
  congr 1
  have := fold_put V 0 off X (by omega)
  rw [Nat.add_zero] at this
  rw [← this]
  rw [← Array.foldl_toList, Array.toList_zipIdx]
section
variable {P : Program}
/-- What a struct's parts come to. -/
theorem built_struct (t : TypeId) (parts : List (Nat × Value)) (z : Value) (fs : Array Field) (pl : List (Nat × Nat)) (X : List Value) (hz : (P.info? t).bind (·.zero) = some z) (hu : P.underlying t = some (.struct fs)) (hp : fs.toList.mapM (fun f => (P.info? f.type).map fun i => (f.offset, i.size)) = some pl)
    (hX : z.cells = X.toArray) (cs : Array Value) (hf : Instr.fill (pl.toArray[·]?) X.toArray parts = some cs) : P.built t parts = some cs := by
  obtain ⟨it, hi, hz'⟩ := Option.bind_eq_some_iff.1 hz
  simp only [Program.built, hi, hu, hz', hp, hX]
  exact hf
theorem run_built (w : World) (t : TypeId) (parts : Array (Nat × Value)) (cells : Array Value) (h : P.built t parts.toList = some cells) : (Instr.build t parts).run P w = .ok (.agg cells) w := run_build w t parts cells h
/-- A slice of one element. -/
theorem run_slice_one (w : World) (t e : TypeId) (v : Value) (V : List Value) (ie : TypeInfo) (z : Value) (n : Nat) (hu : P.underlying t = some (.slice e)) (hie : P.info? e = some ie) (hz : ie.zero = some z) (hn : ie.size = n) (hpos : 0 < n) (hmax : n ≤ 1000) (hv : v.cells = V.toArray) (hl : V.length = n) :
    (Instr.buildSlice t 1 #[(0, v)]).run P w = .ok (.slice (some ⟨w.heap.size, 0, none⟩) 1 1) (w.alloc (.cells V.toArray e)) := by
  subst hn
  refine run_buildSlice w t e 1 #[(0, v)] V.toArray ie z hu hie hz (by omega) (by omega) ?_
  have e1 : ((Array.range (1 * ie.size)).map (z.cells[· % z.cells.size]!)) = (((Array.range (1 * ie.size)).map (z.cells[· % z.cells.size]!)).toList).toArray := (Array.toArray_toList).symm
  rw [e1]
  rw [fill_step _ _ V 0 (0 * ie.size) ie.size v [] rfl hv hl (by simp)]
  rw [fill_nil]
  congr 1
  simp [spl, hl]
theorem parts_list {a : Act} {parts : Array (Nat × Operand)} {vals : List (Nat × Value)} (hv : (parts.toList.map fun x => (x.1, a.eval x.2)) = vals) : (parts.map fun (i, x) => (i, a.eval x)) = vals.toArray := by
  apply Array.toList_inj.1
  rw [Array.toList_map, ← hv]
theorem kUpon_build_to {a : Act} {o : Oper} {u : World} {K : Value → World → Prop} (t : TypeId) (parts : Array (Nat × Operand)) (ho : o.op = .build t parts) (vals : List (Nat × Value)) (hv : (parts.toList.map fun x => (x.1, a.eval x.2)) = vals) (cs : Array Value) (hr : P.built t vals = some cs) (h : K (.agg cs) u) : kUpon P K ((execOp a.eval o).run P u) := by
  have hv := parts_list hv
  have e : (execOp a.eval o).run P u = .ok (.value (.agg cs)) u := by
    unfold execOp
    simp only [ho]
    simp only [Sem.run_bind, Sem.run_pure, hv]
    rw [run_build u t _ cs (by simpa using hr)]
    rfl
  rw [e]
  exact h
theorem kUpon_slice_to {a : Act} {o : Oper} {u : World} {K : Value → World → Prop} (t : TypeId) (len : Nat) (parts : Array (Nat × Operand)) (ho : o.op = .buildSlice t len parts) (vals : List (Nat × Value)) (hv : (parts.toList.map fun x => (x.1, a.eval x.2)) = vals) (v : Value) (w' : World) (hr : Sem.run P (Instr.buildSlice t len vals.toArray) u = .ok v w') (h : K v w') : kUpon P K ((execOp a.eval o).run P u) := by
  have hv := parts_list hv
  have e : (execOp a.eval o).run P u = .ok (.value v) w' := by
    unfold execOp
    simp only [ho]
    simp only [Sem.run_bind, Sem.run_pure, hv]
    rw [hr]
    rfl
  rw [e]
  exact h
theorem wpList_slice_to {ops : Array Oper} {rest : List Oper} {o : Oper} {a : Act} {w : World} {Q : Exit → Act → World → Prop} (hg : o.guard = none) (t : TypeId) (len : Nat) (parts : Array (Nat × Operand)) (ho : o.op = .buildSlice t len parts)
    (vals : List (Nat × Value)) (hv : (parts.toList.map fun x => (x.1, a.eval x.2)) = vals) (v : Value) (w' : World) (hr : Sem.run P (Instr.buildSlice t len vals.toArray) w = .ok v w')
    (h : wpList P ops Q rest (a.put o.dst v) w') : wpList P ops Q (o :: rest) a w := by
  have hv := parts_list hv
  refine wpList_plain hg fun K hK => ?_
  unfold Oper.wp
  have e : (execOp a.eval o).run P w = .ok (.value v) w' := by
    unfold execOp
    simp only [ho]
    simp only [Sem.run_bind, Sem.run_pure, hv]
    rw [hr]
    rfl
  rw [e]
  exact hK _ _ h
theorem wpList_build_at {ops : Array Oper} {rest : List Oper} {o : Oper} {a : Act} {w : World} {Q : Exit → Act → World → Prop} (hg : o.guard = none) (t : TypeId) (parts : Array (Nat × Operand)) (ho : o.op = .build t parts)
    (vals : List (Nat × Value)) (hv : (parts.toList.map fun x => (x.1, a.eval x.2)) = vals) (cs : Array Value) (hr : P.built t vals = some cs)
    (h : wpList P ops Q rest (a.put o.dst (.agg cs)) w) : wpList P ops Q (o :: rest) a w := by
  have hv := parts_list hv
  refine wpList_plain hg fun K hK => ?_
  unfold Oper.wp
  have e : (execOp a.eval o).run P w = .ok (.value (.agg cs)) w := by
    unfold execOp
    simp only [ho]
    simp only [Sem.run_bind, Sem.run_pure, hv]
    rw [run_build w t _ cs (by simpa using hr)]
    rfl
  rw [e]
  exact hK _ _ h
end
end Go.Proofs.YtheambpddpfcfaaDoor.Rb1
