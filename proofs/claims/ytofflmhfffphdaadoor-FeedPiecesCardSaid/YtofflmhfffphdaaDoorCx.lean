/- Sum of the Reader at any state. -/
import Derived.Test.YtofflmhfffphdaaDoorCw
import Derived.Test.YtofflmhfffphdaaDoorRg
import Derived.Laws.CopyOwn
import Derived.Laws.Tables
namespace Go.Proofs.YtofflmhfffphdaaDoor.Cv
def Rs.sum (s : Rs) (L : List Nat) : Rs := if (s.has L.length 32).fe = 0 then ⟨s.at_ + 32, s.fa, s.fe⟩ else s.has L.length 32
def Rs.sumV (s : Rs) (L : List Nat) : List Nat := if (s.has L.length 32).fe = 0 then (L.drop s.at_).take 32 else Go.Proofs.YtofflmhfffphdaaDoor.Ba.zeros 32
end Go.Proofs.YtofflmhfffphdaaDoor.Cv
namespace Go.Proofs.YtofflmhfffphdaaDoor.Cx
set_option linter.unusedVariables false
set_option linter.unusedSimpArgs false
set_option maxRecDepth 100000
open Go.ChangeShapes Go.WideShapes Go.ChangeAt Go.RowKit
open Go.Proofs.YtofflmhfffphdaaDoor.Wu Go.Proofs.YtofflmhfffphdaaDoor.Sm Go.Proofs.YtofflmhfffphdaaDoor.Sh Go.Proofs.YtofflmhfffphdaaDoor.Ba Go.Proofs.YtofflmhfffphdaaDoor.Bp Go.Proofs.YtofflmhfffphdaaDoor.Bq Go.Proofs.YtofflmhfffphdaaDoor.Cm Go.Proofs.YtofflmhfffphdaaDoor.Cn Go.Proofs.YtofflmhfffphdaaDoor.Cr Go.Proofs.YtofflmhfffphdaaDoor.Cs Go.Proofs.YtofflmhfffphdaaDoor.Rg Go.Proofs.YtofflmhfffphdaaDoor.Ct Go.Proofs.YtofflmhfffphdaaDoor.Er Go.Proofs.YtofflmhfffphdaaDoor.Eu Go.Proofs.YtofflmhfffphdaaDoor.Cv Go.Proofs.YtofflmhfffphdaaDoor.Cw
attribute [local go_sem] Rk.kUpon_value Rk.kUpon_skip Rk.kUpon_enter
theorem zlit8 : (#[Value.int IntKind.u8 0, Value.int IntKind.u8 0, Value.int IntKind.u8 0, Value.int IntKind.u8 0, Value.int IntKind.u8 0, Value.int IntKind.u8 0, Value.int IntKind.u8 0, Value.int IntKind.u8 0, Value.int IntKind.u8 0, Value.int IntKind.u8 0, Value.int IntKind.u8 0, Value.int IntKind.u8 0, Value.int IntKind.u8 0, Value.int IntKind.u8 0, Value.int IntKind.u8 0, Value.int IntKind.u8 0, Value.int IntKind.u8 0, Value.int IntKind.u8 0, Value.int IntKind.u8 0, Value.int IntKind.u8 0, Value.int IntKind.u8 0, Value.int IntKind.u8 0, Value.int IntKind.u8 0, Value.int IntKind.u8 0, Value.int IntKind.u8 0, Value.int IntKind.u8 0, Value.int IntKind.u8 0, Value.int IntKind.u8 0, Value.int IntKind.u8 0, Value.int IntKind.u8 0, Value.int IntKind.u8 0, Value.int IntKind.u8 0] : Array Value) = u8s (zeros 32) := by rfl
theorem alenS : Tryd.prog.arrayLen 27 = 32 := by simp [Program.arrayLen, Tryd.underlying27]
theorem aelemS : Tryd.prog.elem 27 = 5 := by simp [Program.elem, Tryd.underlying27]
theorem infoS : (Tryd.prog.info? 27).map (·.size) = some 32 := by kernel_rfl
theorem sliceAllS (u : World) (B : Nat) :
    Sem.run Tryd.prog (Instr.sliceAt 27 (.pointer (some ⟨B, 0, none⟩)) none none none) u = .ok (.slice (some ⟨B, 0, none⟩) 32 32) u := by
  rw [run_sliceAt_array_all u 27 ⟨B, 0, none⟩ (by rw [alenS, aelemS]; exact Tryd.underlying27), aelemS, size_u8, alenS]
  simp only [Result.andThen, slicedAt, Nat.mul_one]
  rw [if_neg (by omega), Addr.add_mid]
theorem kUpon_copy {a : Act} {o : Oper} {u w' : World} {K : Value → World → Prop} {v y v' : Value} (s x : Operand) (ho : o.op = .call { callee := .builtin .copy, args := #[s, x], argTypes := #[31, 31] }) (hs : a.eval s = v) (hx : a.eval x = y)
    (hrun : (Builtin.copy_ #[31, 31] o.type #[v, y]).run Tryd.prog u = .ok v' w') (h : K v' w') : Rk.kUpon Tryd.prog K ((execOp a.eval o).run Tryd.prog u) := by
  have e : (execOp a.eval o).run Tryd.prog u = .ok (.value v') w' := by
    simp [execOp, ho, resolve, invoke, builtin, hs, hx, hrun, Result.andThen]
  rw [e]
  exact h
theorem grown_new {w u u' : World} {k : Option Nat} {B : Nat} (h : w.grownBy u k) (hB : w.heap.size ≤ B) (hg : u.grownBy u' (some B)) : w.grownBy u' k :=
  ⟨hg.os.trans h.os, hg.tape.trans h.tape, hg.output.trans h.output, Nat.le_trans h.size hg.size, fun b hb hne => (hg.block b (Nat.lt_of_lt_of_le hb h.size) (fun e => by injection e with e; omega)).trans (h.block b hb hne)⟩
theorem grown_setRow (w : World) (g : Nat) (cs : Array Value) : w.grownBy (w.setRow g cs) (some g) :=
  ⟨rfl, rfl, rfl, by simp [World.setRow], fun b hb hne => setRow_other w g b cs (fun e => hne (by rw [e]))⟩
/-- Where the walk through the copy is. -/
def stage (g : Nat) (ad : Addr) (m c : Nat) (s s' : Rs) (SB : Nat) (X : List Nat) (u : World) : List Value → Prop
  | [] => RdS u g (some ad) m c s ∧ u.heap[SB]? = some (.cells (u8s (zeros 32)) 27 (0, 0))
  | [_] => RdS u g (some ad) m c s' ∧ u.heap[SB]? = some (.cells (u8s (zeros 32)) 27 (0, 0))
  | _ => RdS u g (some ad) m c s' ∧ u.heap[SB]? = some (.cells (u8s X) 27 (0, 0))
structure T (w : World) (g : Nat) (ad : Addr) (m c : Nat) (s s' : Rs) (L : List Nat) (RB SB : Nat) (X : List Nat) (h : List Value) (u : World) : Prop where
  grown : w.grownBy u (some g)
  res : u.heap[RB]? = some (.cells (u8s (zeros 32)) 27 (0, 0))
  src : SrcB u (some ad) m L
  stage : stage g ad m c s s' SB X u h
end Go.Proofs.YtofflmhfffphdaaDoor.Cx
