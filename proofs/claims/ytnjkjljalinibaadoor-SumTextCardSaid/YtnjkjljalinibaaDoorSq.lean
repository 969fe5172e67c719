/- Opening an argument that is a sum. -/
import Derived.Test.YtnjkjljalinibaaDoorSp
import Derived.OpenShut
import Derived.WideShapes
namespace Go.Proofs.YtnjkjljalinibaaDoor.Sq
set_option linter.unusedVariables false
set_option linter.unusedSimpArgs false
open Go.RowKit Go.WideShapes Go.ChangeShapes
open Go.Proofs.YtnjkjljalinibaaDoor.Wu Go.Proofs.YtnjkjljalinibaaDoor.Sm Go.Proofs.YtnjkjljalinibaaDoor.Sh Go.Proofs.YtnjkjljalinibaaDoor.Sc Go.Proofs.YtnjkjljalinibaaDoor.Sw0 Go.Proofs.YtnjkjljalinibaaDoor.So Go.Proofs.YtnjkjljalinibaaDoor.Sp

theorem okWide_array {P : Program} {w : World} {r : Reach} {base n : Nat} {t e : TypeId} {v : Value} (ht : P.underlying t = some (.array n e)) (h : Value.okWide P w r base t v) : ∃ cs, v = .agg cs ∧ cs.size = P.cellsOf t := by
  unfold Value.okWide at h
  rw [ht] at h
  cases v <;> simp_all
def numAt (cs : Array Value) (i : Nat) : Nat := match cs[i]? with | some (Value.int IntKind.u8 z) => z.toNat | _ => 0
theorem open_sum {H : Type} {enc : TypeId × Value → H} {P : Program} {w : World} {r : Reach} {b0 base n : Nat} {spare : Nat → Bool} {held : Bool} {t e : TypeId} {v : Value} {d : DataW H} {p : List MemPlace}
    (ht : P.underlying t = some (.array n e)) (he : P.underlying e = some (.int .u8)) (hce : P.cellsOf e = 1) (hct : P.cellsOf t = n) (hv : Value.okWide P w r b0 t v) (h : DataW.Trod enc P w base spare held t v d p) :
    ∃ X : List Nat, v = .agg (u8s X) ∧ X.length = n ∧ All8 X := by
  obtain ⟨cs, rfl, hsz⟩ := okWide_array ht hv
  obtain ⟨fuel, hf⟩ := h
  obtain ⟨xs, m, _, ex, hl, hxl, hel⟩ := DataW.trod_array ht hf
  rw [hct] at hsz
  have key : ∀ i, i < n → ∃ z : Nat, z < 256 ∧ cs[i]? = some (.int .u8 (z : Int)) := by
    intro i hi
    have h1 := hel i hi
    obtain ⟨y, hy⟩ : ∃ y, xs[i]? = some y := ⟨xs[i]'(by omega), List.getElem?_eq_getElem (by omega)⟩
    rw [hce, Nat.mul_one, hy] at h1
    obtain ⟨z, hc, _, hw⟩ := DataW.trod_int he h1
    have hb := u8_bd hw
    refine ⟨z.toNat, by omega, ?_⟩
    have h2 := congrArg (·[0]?) hc
    simp only [List.getElem?_take, List.getElem?_drop, Nat.add_zero, List.getElem?_cons_zero] at h2
    rw [show ((z.toNat : Nat) : Int) = z by omega]
    simpa [Value.cells] using h2
  refine ⟨(List.range n).map (numAt cs), ?_, by simp, ?_⟩
  · congr 1
    apply Array.ext
    · rw [u8s_size]; simp [hsz]
    · intro i h1 h2
      obtain ⟨z, hz, hc⟩ := key i (by omega)
      have e1 : cs[i] = .int .u8 (z : Int) := by
        have := Array.getElem?_eq_some_iff.1 hc
        exact this.2
      have e2 := u8s_at ((List.range n).map (numAt cs)) i (by simp; omega)
      have e3 := (Array.getElem?_eq_some_iff.1 e2).2
      rw [e1, e3]
      simp [List.getD, show i < n by omega, numAt, hc]
  · intro x hx
    simp only [List.mem_map, List.mem_range] at hx
    obtain ⟨i, hi, rfl⟩ := hx
    obtain ⟨z, hz, hc⟩ := key i hi
    unfold numAt
    rw [hc]
    simp
    omega
end Go.Proofs.YtnjkjljalinibaaDoor.Sq
