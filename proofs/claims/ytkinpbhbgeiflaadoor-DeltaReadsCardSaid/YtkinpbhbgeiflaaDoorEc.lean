/- What the listed variables give: errors' own type, the first state, the words of the rounds; a world in which they lie so. -/
import Derived.Test.YtkinpbhbgeiflaaDoorQa
import Derived.Test.YtkinpbhbgeiflaaDoorEl
namespace Go.Proofs.YtkinpbhbgeiflaaDoor.Ec
set_option linter.unusedVariables false
set_option linter.unusedSimpArgs false
set_option maxRecDepth 100000
open Go.ChangeShapes Go.WideShapes Go.ChangeAt Go.RowKit
open Go.Proofs.YtkinpbhbgeiflaaDoor.Wu Go.Proofs.YtkinpbhbgeiflaaDoor.Er Go.Proofs.YtkinpbhbgeiflaaDoor.Sm Go.Proofs.YtkinpbhbgeiflaaDoor.Sk Go.Proofs.YtkinpbhbgeiflaaDoor.Sc Go.Proofs.YtkinpbhbgeiflaaDoor.Sxa Go.Proofs.YtkinpbhbgeiflaaDoor.Sn Go.Proofs.YtkinpbhbgeiflaaDoor.Sl
abbrev laid : List (String × DataW Unit) := [("errors.errorType", Rows.laid_errors_errorType), ("wharfinger/sum.firstState", Rows.laid_wharfinger_sum_firstState), ("wharfinger/sum.roundWords", Rows.laid_wharfinger_sum_roundWords)]
theorem of_laid {W : World} (h : laidMetH Tryd.prog laid W) : Et W ∧ Fst W ∧ Tbl W := by
  have h' : laidMet Tryd.prog [("wharfinger/sum.firstState", Rows.laid_wharfinger_sum_firstState), ("wharfinger/sum.roundWords", Rows.laid_wharfinger_sum_roundWords)] W ∧ handlesMet Tryd.prog [("errors.errorType", Rows.laid_errors_errorType)] W := h
  refine ⟨?_, ?_⟩
  · obtain ⟨name, u, ty, e1, e2, e3, e4, e5⟩ := h'.2 _ (List.mem_singleton.2 rfl)
    have en : name = [101, 114, 114, 111, 114] := (Option.some.inj e1).symm
    subst en
    obtain rfl := Option.some.inj (El.rt.symm.trans e2)
    have hm : ty ∈ (List.range 276).filter fun t => Tryd.prog.rowNamed t [101, 114, 114, 111, 114] := List.mem_filter.2 ⟨List.mem_range.2 (by rw [← El.size]; exact e3), e4⟩
    rw [El.oneRow] at hm
    obtain rfl := List.mem_singleton.1 hm
    have hh : typeHandle Tryd.prog 42 = .pointer (some ⟨3, 42, none⟩) := by kernel_rfl
    rw [hh] at e5
    have := World.var?_cell El.et e5 0
    unfold Et
    simpa using this
  · have h1 : laidMet Tryd.prog [("wharfinger/sum.firstState", Lib.tabData .u32 (H0.list.map fun x : Nat => (x : Int))), ("wharfinger/sum.roundWords", Lib.tabData .u32 (Ks.map fun x : Nat => (x : Int)))] W := by
      rw [← dF, ← dR]; exact h'.1
    have a1 := Lib.tabIs_of_head gF tF Tryd.underlying204 Tryd.underlying108 (by kernel_rfl) (by kernel_rfl) h1
    have a2 := Lib.tabIs_of_head gR tR Tryd.underlying242 Tryd.underlying108 (by kernel_rfl) (by kernel_rfl) (laidMet.tail h1)
    exact ⟨of_tab gF a1, of_tab gR a2⟩
theorem door_met (os : Os) (args : Array Value) : laidMetH Tryd.prog laid ((World.doorLaid Tryd.prog 400 os).forCall (fun _ _ => 0) ⟨#[], args, []⟩).memory :=
  laidMetH_of_parts3 (fuel := 8) (laidMet_of_run' 8 (by kernel_rfl) (by kernel_rfl)) (by kernel_rfl) (by kernel_rfl)
end Go.Proofs.YtkinpbhbgeiflaaDoor.Ec
