/- Texts of bytes; a slice of bytes as a text. -/
import Derived.Test.YtpaijhmbfljfmaaDoorBq
import Derived.Laws.BytesArg
import Derived.Laws.BytesString
namespace Go.Proofs.YtpaijhmbfljfmaaDoor.Bs
set_option linter.unusedVariables false
set_option linter.unusedSimpArgs false
set_option maxRecDepth 100000
open Go.RowKit
open Go.Proofs.YtpaijhmbfljfmaaDoor.Wu Go.Proofs.YtpaijhmbfljfmaaDoor.Sm Go.Proofs.YtpaijhmbfljfmaaDoor.Sh Go.Proofs.YtpaijhmbfljfmaaDoor.Ba Go.Proofs.YtpaijhmbfljfmaaDoor.Bp Go.Proofs.YtpaijhmbfljfmaaDoor.Bq
def strN (L : List Nat) : ByteArray := strOfNums (L.map fun x : Nat => (x : Int))
theorem strN_size (A : List Nat) : (strN A).size = A.length := by unfold strN; rw [strOfNums_size]; simp
theorem conv_row {w : World} {B off n cap : Nat} {L : List Nat} (hl : L.length = n) (hc : ∀ i, i < n → w.cell? ⟨B, off + i, none⟩ = some (.int .u8 ((L.getD i 0 : Nat) : Int))) :
    Sem.run Tryd.prog (convert 31 9 (.slice (some ⟨B, off, none⟩) n cap)) w = .ok (.string (strN L)) w :=
  run_convert_bytes_arg w 31 5 Tryd.underlying31 Tryd.underlying5 B off n cap (L.map fun x : Nat => (x : Int)) (by simp [hl]) (fun i hi => by
    rw [hc i hi]; simp [List.getD, List.getElem?_eq_getElem (show i < L.length by omega)]) 9 Tryd.underlying9
theorem conv_none (a : Option Addr) (cap : Nat) (u : World) : Sem.run Tryd.prog (convert 31 9 (.slice a 0 cap)) u = .ok (.string (strN [])) u := by
  rw [run_convert_bytes_string u 31 9 5 a 0 cap Tryd.underlying31 Tryd.underlying5 Tryd.underlying9]
  cases a with
  | none => simp [Conv.bytesToString]; rfl
  | some x => exact run_bytesToString u x 0 cap [] (by simp [loadCells]; rfl)
theorem conv_src {w : World} {a : Option Addr} {n cap : Nat} {L : List Nat} (h : SrcB w a n L) : Sem.run Tryd.prog (convert 31 9 (.slice a n cap)) w = .ok (.string (strN L)) w := by
  obtain ⟨hl, h8, b, off, ha, hc⟩ := h
  by_cases h0 : n = 0
  · subst h0
    obtain rfl : L = [] := List.length_eq_zero_iff.1 hl
    exact conv_none a cap w
  · obtain rfl := ha (by omega)
    exact conv_row hl hc
end Go.Proofs.YtpaijhmbfljfmaaDoor.Bs
