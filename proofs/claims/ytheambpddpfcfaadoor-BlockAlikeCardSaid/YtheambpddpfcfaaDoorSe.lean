/- Two sums compared, for any program that has them. -/
import Derived.Test.YtheambpddpfcfaaDoorBa
import Derived.ChangeKeysEq
namespace Go.Proofs.YtheambpddpfcfaaDoor.Se
set_option linter.unusedVariables false
set_option linter.unusedSimpArgs false
set_option maxRecDepth 100000
open Go.ChangeShapes Go.WideShapes Go.ChangeAt Go.RowKit
open Go.Proofs.YtheambpddpfcfaaDoor.Wu Go.Proofs.YtheambpddpfcfaaDoor.Sm Go.Proofs.YtheambpddpfcfaaDoor.Sh Go.Proofs.YtheambpddpfcfaaDoor.Ba
theorem und_u8 : Tryd.prog.underlying 5 = some (.int .u8) := Tryd.underlying5
theorem cells_u8 : Tryd.prog.cellsOf 5 = 1 := by kernel_rfl
theorem part_u8 (X : List Nat) (i : Nat) (h : i < X.length) (u : World) : Sem.run Tryd.prog (part 5 (u8s X) i) u = .ok (.int .u8 ((X.getD i 0 : Nat) : Int)) u := by
  have e : (u8s X)[i]? = some (.int .u8 ((X.getD i 0 : Nat) : Int)) := u8s_at X i h
  simp [part, e, size_u8, go_sem]
theorem items_u8 (d : Nat) (X Y : List Nat) (u : World) : ∀ is : List Nat, (∀ i ∈ is, i < X.length ∧ i < Y.length) →
    Sem.run Tryd.prog (Op.eqItems (d + 1) 5 1 (u8s X) (u8s Y) is) u = .ok (is.all fun i => X.getD i 0 == Y.getD i 0) u
  | [], _ => by simp [Op.eqItems]
  | i :: is, h => by
    have hi := h i (List.mem_cons_self ..)
    simp only [Op.eqItems, Sem.run_bind, Nat.mul_one, part_u8 X i hi.1, part_u8 Y i hi.2, Result.andThen_ok, run_equalIn_int u d 5 .u8 .u8 _ _ und_u8]
    rw [List.all_cons]
    by_cases he : X.getD i 0 = Y.getD i 0
    · rw [he]
      simp only [BEq.rfl, Bool.not_true, Bool.false_eq_true, if_false, Bool.true_and]
      exact items_u8 d X Y u is fun j hj => h j (List.mem_cons_of_mem _ hj)
    · have e1 : (((X.getD i 0 : Nat) : Int) == ((Y.getD i 0 : Nat) : Int)) = false := by simp only [beq_eq_false_iff_ne]; omega
      have e2 : (X.getD i 0 == Y.getD i 0) = false := by simpa using he
      rw [e1, e2]
      simp
theorem all_range (X Y : List Nat) (h : X.length = 32) (h' : Y.length = 32) : ((List.range 32).all fun i => X.getD i 0 == Y.getD i 0) = decide (X = Y) := by
  rw [Bool.eq_iff_iff]
  simp only [List.all_eq_true, List.mem_range, beq_iff_eq, decide_eq_true_eq]
  constructor
  · intro hh
    apply List.ext_getElem (by omega)
    intro i h1 h2
    have := hh i (by omega)
    simpa [List.getD, h1, h2] using this
  · rintro rfl i _; rfl
/-- Two sums, compared. -/
theorem sum_eq (X Y : List Nat) (hX : X.length = 32) (hY : Y.length = 32) (u : World) :
    Sem.run Tryd.prog (Op.equalIn 10000 61 (.agg (u8s X)) (.agg (u8s Y))) u = .ok (decide (X = Y)) u := by
  obtain ⟨i, hi, _⟩ := Option.map_eq_some_iff.1 info_u8s
  rw [run_equalIn_array (P := Tryd.prog) u 9999 (t := 61) (e := 5) (n := 32) (i := i) (u8s X) (u8s Y) Tryd.underlying61 hi, cells_u8, items_u8 9998 X Y u (List.range 32) (fun i hi => by rw [List.mem_range] at hi; omega), all_range X Y hX hY]
theorem sum_same (X : List Nat) (hX : X.length = 32) (u : World) : Sem.run Tryd.prog (Op.equalIn 10000 61 (.agg (u8s X)) (.agg (u8s X))) u = .ok true u := by
  rw [sum_eq X X hX hX]; simp
end Go.Proofs.YtheambpddpfcfaaDoor.Se
