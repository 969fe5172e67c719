/- From a slice that came in to a slice of bytes that can be read. -/
import Derived.Test.YtggdehlmlggmhaaWz
import Derived.Test.YtggdehlmlggmhaaWo
namespace Go.Proofs.Ytggdehlmlggmhaa.Wq
set_option linter.unusedVariables false
open Go.RowKit
open Go.Proofs.Ytggdehlmlggmhaa.Wu Go.Proofs.Ytggdehlmlggmhaa.Wm Go.Proofs.Ytggdehlmlggmhaa.Wz Go.Proofs.Ytggdehlmlggmhaa.Wo

theorem row_src {w : World} {x : Addr} {len cap : Nat} {zs : List Int} (hl : len ≤ cap) (hz : zs.length = cap)
    (hcell : ∀ i, i < zs.length → w.cell? (x.add i) = some (.int .u8 (zs.getD i 0))) (hwz : ∀ n ∈ zs, (Lit.int .u8 n).wf = true) (m : Nat) (hml : m ≤ len) : Src w (some x) m (zs.take m) := by
  by_cases h : m = 0
  · subst h
    exact Src.nil w _
  · obtain ⟨b, off, rfl, hb, hL, hLl, hc⟩ := row_open hl hz hcell hwz m (by omega) hml
    exact ⟨hLl, hL, .inr ⟨b, off, rfl, hb, hc⟩⟩
theorem if_min (len m : Nat) (h : m = min len 500) : (if (500 : Int) < (len : Int) then (500 : Int) else (len : Int)) = (m : Int) := by
  by_cases h1 : (500 : Int) < (len : Int)
  · rw [if_pos h1]; omega
  · rw [if_neg h1]; omega
end Go.Proofs.Ytggdehlmlggmhaa.Wq
