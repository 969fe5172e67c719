/- Loads and stores of whole rows inside regions that draw their order. -/
import Derived.Test.YtlhjkacdhfchiaaDoorRk
import Derived.Test.YtlhjkacdhfchiaaDoorWu
import Derived.Deep.MidRow
namespace Go.Proofs.YtlhjkacdhfchiaaDoor.Rx
set_option linter.unusedVariables false
set_option linter.unusedSimpArgs false
open Go.RowKit
open Go.Proofs.YtlhjkacdhfchiaaDoor.Rk
theorem kUpon_store_mid {P : Program} {a : Act} {o : Oper} {u : World} {K : Value → World → Prop} (ty : TypeId) (x y : Operand) (ho : o.op = .store ty x y) (b off : Nat) (cells : Array Value) (hx : a.eval x = .pointer (some ⟨b, off, none⟩)) (hy : a.eval y = .agg cells)
    (ht : u.there b off cells.size) (hi : (P.info? ty).map (·.size) = some cells.size) (h1 : cells.all (·.oneCell') = true) (h : K undef (u.setCells b off cells.toList)) : kUpon P K ((execOp a.eval o).run P u) := by
  have hr := run_storeAt_mid (P := P) u b off ty cells ht hi h1
  have e : (execOp a.eval o).run P u = .ok .skip (u.setCells b off cells.toList) := by
    simp [execOp, ho, hx, hy, hr, Result.andThen]
  rw [e]
  exact h
theorem kUpon_load_mid {P : Program} {a : Act} {o : Oper} {u : World} {K : Value → World → Prop} (ty : TypeId) (x : Operand) (ho : o.op = .load ty x) (b off : Nat) (v : Value) (hx : a.eval x = .pointer (some ⟨b, off, none⟩))
    (hr : Sem.run P (loadVar ty ⟨b, off, none⟩) u = .ok v u) (h : K v u) : kUpon P K ((execOp a.eval o).run P u) := by
  have e : (execOp a.eval o).run P u = .ok (.value v) u := by
    simp [execOp, ho, hx, Instr.loadAt, Instr.sureAddr, hr, Result.andThen]
  rw [e]
  exact h
theorem there_all {w : World} {B : Nat} {c : Array Value} {T : TypeId} (h : w.heap[B]? = some (.cells c T (0, 0))) : w.there B 0 c.size := fun j hj => by
  refine ⟨?_, ?_⟩
  · rw [Nat.zero_add, Wu.blk_cell h (x := c[j]) (by rw [Array.getElem?_eq_getElem hj])]; rfl
  · exact Wu.blk_free h
end Go.Proofs.YtlhjkacdhfchiaaDoor.Rx
