/- What the listed variables give: the first state and the words of the rounds; a world in which they lie so. -/
import Derived.Test.YtheambpddpfcfaaDoorSn
import Derived.ProofKit
import Derived.LaidMore
import Derived.OpenShut
import Derived.Stop.Joined
import Derived.Lib.LaidTab
import Derived.Stop.LaidErr
namespace Go.Proofs.YtheambpddpfcfaaDoor.Sl
set_option linter.unusedVariables false
set_option linter.unusedSimpArgs false
set_option maxRecDepth 100000
open Go.ChangeShapes Go.WideShapes Go.ChangeAt Go.RowKit
open Go.Proofs.YtheambpddpfcfaaDoor.Wu Go.Proofs.YtheambpddpfcfaaDoor.Sm Go.Proofs.YtheambpddpfcfaaDoor.Sk Go.Proofs.YtheambpddpfcfaaDoor.Sc Go.Proofs.YtheambpddpfcfaaDoor.Sxa Go.Proofs.YtheambpddpfcfaaDoor.Sn

abbrev laid : List (String × DataW Unit) := [("wharfinger/sum.firstState", Rows.laid_wharfinger_sum_firstState), ("wharfinger/sum.roundWords", Rows.laid_wharfinger_sum_roundWords)]
theorem gF : Tryd.prog.globalNamed "wharfinger/sum.firstState" = some 1 := by kernel_rfl
theorem gR : Tryd.prog.globalNamed "wharfinger/sum.roundWords" = some 2 := by kernel_rfl
theorem tF : (Tryd.prog.globals[1]?).map (·.type) = some 172 := by kernel_rfl
theorem tR : (Tryd.prog.globals[2]?).map (·.type) = some 216 := by kernel_rfl
theorem dF : (Rows.laid_wharfinger_sum_firstState : DataW Unit) = Lib.tabData .u32 (H0.list.map fun x : Nat => (x : Int)) := by rfl
theorem dR : (Rows.laid_wharfinger_sum_roundWords : DataW Unit) = Lib.tabData .u32 (Ks.map fun x : Nat => (x : Int)) := by rfl
theorem of_tab {W : World} {name : String} {g : Nat} {X : List Nat} (hg : Tryd.prog.globalNamed name = some g) (h : Lib.TabIs Tryd.prog W name .u32 (X.map fun x : Nat => (x : Int))) : ∃ T f, W.heap[g]? = some (.cells (u32s X) T f) := by
  unfold Lib.TabIs World.var? at h
  rw [hg, Option.bind_some] at h
  split at h
  · rename_i cs T f hh
    injection h with h
    refine ⟨T, f, ?_⟩
    rw [hh, h]
    unfold u32s
    simp
  · cases h
theorem of_laid {W : World} (h : laidMetH Tryd.prog laid W) : Fst W ∧ Tbl W := by
  rw [MakeChecks.laidMetH_plain _ _ _ (by kernel_rfl)] at h
  have h1 : laidMet Tryd.prog [("wharfinger/sum.firstState", Lib.tabData .u32 (H0.list.map fun x : Nat => (x : Int))), ("wharfinger/sum.roundWords", Lib.tabData .u32 (Ks.map fun x : Nat => (x : Int)))] W := by
    rw [← dF, ← dR]; exact h
  have a1 := Lib.tabIs_of_head gF tF Tryd.underlying172 Tryd.underlying50 (by kernel_rfl) (by kernel_rfl) h1
  have a2 := Lib.tabIs_of_head gR tR Tryd.underlying216 Tryd.underlying50 (by kernel_rfl) (by kernel_rfl) (laidMet.tail h1)
  exact ⟨of_tab gF a1, of_tab gR a2⟩
theorem door_met (os : Os) (args : Array Value) : laidMetH Tryd.prog laid ((World.doorLaid Tryd.prog 400 os).forCall (fun _ _ => 0) ⟨#[], args, []⟩).memory :=
  laidMetH_of_parts3 (fuel := 8) (laidMet_of_run' 8 (by kernel_rfl) (by kernel_rfl)) (by kernel_rfl) (by kernel_rfl)
end Go.Proofs.YtheambpddpfcfaaDoor.Sl
