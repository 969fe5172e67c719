/- Opening arguments: slices of bytes that came in. -/
import Derived.Test.YtheambpddpfcfaaDoorSo
import Derived.OpenShut
namespace Go.Proofs.YtheambpddpfcfaaDoor.Sp
set_option linter.unusedVariables false
set_option linter.unusedSimpArgs false
set_option maxRecDepth 100000
open Go.RowKit
open Go.Proofs.YtheambpddpfcfaaDoor.Wu Go.Proofs.YtheambpddpfcfaaDoor.Sm Go.Proofs.YtheambpddpfcfaaDoor.Sh Go.Proofs.YtheambpddpfcfaaDoor.Sw0 Go.Proofs.YtheambpddpfcfaaDoor.So

theorem i64_bd {n : Int} (h : (Lit.int .i64 n).wf = true) : -9223372036854775808 ≤ n ∧ n ≤ 9223372036854775807 := by
  simp [Lit.wf, IntKind.min, IntKind.max, IntKind.signed, IntKind.bits] at h
  omega
theorem u8_bd {n : Int} (h : (Lit.int .u8 n).wf = true) : 0 ≤ n ∧ n < 256 := by
  simp [Lit.wf, IntKind.min, IntKind.max, IntKind.signed, IntKind.bits] at h
  omega
theorem src_of {w : World} {a : Option Addr} {len cap : Nat} {zs : List Int}
    (h : (a = none ∧ len = 0 ∧ cap = 0 ∧ zs = []) ∨
      ∃ x, a = some x ∧ len ≤ cap ∧ cap ≤ maxLen ∧ zs.length = cap ∧ (∀ i, i < zs.length → w.cell? (x.add i) = some (.int .u8 (zs.getD i 0))) ∧ ∀ n ∈ zs, (Lit.int .u8 n).wf = true) :
    ∃ L : List Nat, SrcB w a len L ∧ len ≤ cap := by
  rcases h with ⟨rfl, rfl, rfl, rfl⟩ | ⟨x, rfl, hl, hm, hz, hcell, hwz⟩
  · exact ⟨[], SrcB.nil w none, Nat.le_refl _⟩
  · by_cases h0 : len = 0
    · subst h0
      exact ⟨[], SrcB.nil w _, hl⟩
    · obtain ⟨b, off, spot⟩ := x
      have hc := hcell 0 (by omega)
      have hspot : spot = none := by simpa [Addr.add] using World.cell?_spot hc
      subst hspot
      have hget : ∀ i, i < len → zs.getD i 0 = ((((zs.take len).map Int.toNat).getD i 0 : Nat) : Int) := by
        intro i hi
        have hi' : i < zs.length := by omega
        have hb := u8_bd (hwz zs[i] (List.getElem_mem hi'))
        simp only [List.getD, List.getElem?_map, List.getElem?_take_of_lt hi, List.getElem?_eq_getElem hi', Option.map_some, Option.getD_some]
        omega
      refine ⟨(zs.take len).map Int.toNat, ⟨by rw [List.length_map, List.length_take]; omega, ?_, b, off, fun _ => rfl, fun i hi => ?_⟩, hl⟩
      · intro z hz'
        simp only [List.mem_map] at hz'
        obtain ⟨y, hy, rfl⟩ := hz'
        have hb := u8_bd (hwz y (List.mem_of_mem_take hy))
        omega
      · have := hcell i (by omega)
        rw [← hget i hi, ← this]
        congr 1
        unfold Addr.add
        split <;> simp_all
end Go.Proofs.YtheambpddpfcfaaDoor.Sp
