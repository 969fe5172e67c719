/- Steps of such a walk over rows of bytes that are known whole. -/
import Derived.Test.YtnjkjljalinibaaDoorRk
import Derived.Test.YtnjkjljalinibaaDoorSv
namespace Go.Proofs.YtnjkjljalinibaaDoor.Rl
set_option linter.unusedVariables false
set_option linter.unusedSimpArgs false
open Go.RowKit
open Go.Proofs.YtnjkjljalinibaaDoor.Rk Go.Proofs.YtnjkjljalinibaaDoor.Sc Go.Proofs.YtnjkjljalinibaaDoor.Sw0
variable {P : Program} {ops : Array Oper} {S : World → Prop} {Q : Act → Prop} {a : Act} {o : Oper} {l : List Oper}
/-- A long array is loaded. -/
theorem keep_load {ty : TypeId} {x : Operand} (b : Nat) (X : List Nat) (hw : Region.wanted o (yielded ops a.tmps) = true) (ho : o.op = .load ty x) (hx : a.eval x = .pointer (some ⟨b, 0, none⟩))
    (hS : ∀ w, S w → w.rangeAt b 0 (u8s X).toList) (d : TypeDesc) (hu : P.underlying ty = some d) (hd : d.isRow = true) (hi : (P.info? ty).map (·.size) = some X.length)
    (hn : wpKeep P ops S Q l (a.put o.dst (.agg (u8s X)))) : wpKeep P ops S Q (o :: l) a := by
  refine keep_step hw (fun w K hSw hK => ?_) hn
  have e := run_loadVar_mid (P := P) w b 0 ty (u8s X).toList d (hS w hSw) hu hd (by rw [Array.length_toList, u8s_size]; exact hi)
  rw [Array.toArray_toList] at e
  unfold execOp
  simp only [ho, hx, Instr.loadAt, Instr.sureAddr, Sem.run_bind, Sem.run_pure, Result.andThen_ok, e]
  exact hK w hSw
end Go.Proofs.YtnjkjljalinibaaDoor.Rl
