/- Opening a slice of bytes that came in. -/
import Derived.Test.YtggdehlmlggmhabWu
import Derived.Test.YtggdehlmlggmhabWm
import Derived.OpenShut
namespace Go.Proofs.Ytggdehlmlggmhab.Wo
set_option linter.unusedVariables false
set_option linter.unusedSimpArgs false
open Go.RowKit
open Go.Proofs.Ytggdehlmlggmhab.Wm Go.Proofs.Ytggdehlmlggmhab.Wu

theorem u8_bd {n : Int} (h : (Lit.int .u8 n).wf = true) : 0 ≤ n ∧ n < 256 := by
  simp [Lit.wf, IntKind.min, IntKind.max, IntKind.signed, IntKind.bits] at h
  omega
theorem row_open {w : World} {x : Addr} {len cap : Nat} {zs : List Int} (hl : len ≤ cap) (hz : zs.length = cap)
    (hcell : ∀ i, i < zs.length → w.cell? (x.add i) = some (.int .u8 (zs.getD i 0))) (hwz : ∀ n ∈ zs, (Lit.int .u8 n).wf = true) (m : Nat) (hm : 0 < m) (hml : m ≤ len) :
    ∃ b off, x = ⟨b, off, none⟩ ∧ b < w.heap.size ∧ Byt (zs.take m) ∧ (zs.take m).length = m ∧ ∀ i, i < m → w.cell? ⟨b, off + i, none⟩ = some (.int .u8 ((zs.take m).getD i 0)) := by
  obtain ⟨b, off, spot⟩ := x
  have hc := hcell 0 (by omega)
  have hspot : spot = none := by simpa [Addr.add] using World.cell?_spot hc
  subst hspot
  refine ⟨b, off, rfl, ?_, ?_, by rw [List.length_take]; omega, fun i hi => ?_⟩
  · have := cell_lt hc
    simpa [Addr.add] using this
  · intro z hz'
    exact u8_bd (hwz z (List.mem_of_mem_take hz'))
  · have := hcell i (by omega)
    have e : (⟨b, off, none⟩ : Addr).add i = ⟨b, off + i, none⟩ := by
      by_cases h : i = 0
      · subst h; simp [Addr.add]
      · simp [Addr.add, h]
    rw [e] at this
    rw [this]
    simp [List.getD, List.getElem?_take_of_lt hi]
end Go.Proofs.Ytggdehlmlggmhab.Wo
