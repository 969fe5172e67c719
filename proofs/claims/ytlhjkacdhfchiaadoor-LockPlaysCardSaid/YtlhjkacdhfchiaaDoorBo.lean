/- A slice of bytes that came in, as bytes. -/
import Derived.Test.YtlhjkacdhfchiaaDoorBa
import Derived.ProofKit
import Derived.OpenShut
namespace Go.Proofs.YtlhjkacdhfchiaaDoor.Bo
set_option linter.unusedVariables false
set_option linter.unusedSimpArgs false
set_option maxRecDepth 100000
open Go.ChangeShapes Go.WideShapes Go.ChangeAt Go.RowKit
open Go.Proofs.YtlhjkacdhfchiaaDoor.Wu Go.Proofs.YtlhjkacdhfchiaaDoor.Sm Go.Proofs.YtlhjkacdhfchiaaDoor.Sh Go.Proofs.YtlhjkacdhfchiaaDoor.Ba
theorem u8_bd {z : Int} (h : (Lit.int .u8 z).wf = true) : 0 ≤ z ∧ z < 256 := by
  simp [Lit.wf, IntKind.min, IntKind.max, IntKind.signed, IntKind.bits] at h
  omega
theorem src_of_row {w : World} {a : Option Addr} {len cap : Nat} {zs : List Int} (h : (a = none ∧ len = 0 ∧ cap = 0 ∧ zs = []) ∨
      ∃ x, a = some x ∧ len ≤ cap ∧ cap ≤ maxLen ∧ zs.length = cap ∧ (∀ i, i < zs.length → w.cell? (x.add i) = some (.int .u8 (zs.getD i 0))) ∧ ∀ n ∈ zs, (Lit.int .u8 n).wf = true) :
    ∃ L : List Nat, SrcB w a len L ∧ len ≤ cap ∧ cap ≤ 9223372036854775807 ∧ (a = none → len = 0) := by
  rcases h with ⟨rfl, rfl, rfl, rfl⟩ | ⟨⟨b, off, spot⟩, rfl, hl, hm, hz, hcell, hwz⟩
  · exact ⟨[], SrcB.nil w none, Nat.le_refl _, by omega, fun _ => rfl⟩
  · unfold maxLen at hm
    refine ⟨(zs.take len).map Int.toNat, ⟨by simp; omega, ?_, b, off, fun h0 => ?_, fun i hi => ?_⟩, hl, by omega, fun h => by cases h⟩
    · intro x hx
      obtain ⟨z, hz1, rfl⟩ := List.mem_map.1 hx
      have := u8_bd (hwz z (List.mem_of_mem_take hz1))
      omega
    · have hc := hcell 0 (by omega)
      have hspot : spot = none := by simpa [Addr.add] using World.cell?_spot hc
      rw [hspot]
    · have hc0 := hcell 0 (by omega)
      have hspot : spot = none := by simpa [Addr.add] using World.cell?_spot hc0
      subst hspot
      have := hcell i (by omega)
      have e : (⟨b, off, none⟩ : Addr).add i = ⟨b, off + i, none⟩ := by
        by_cases h : i = 0
        · subst h; simp [Addr.add]
        · simp [Addr.add, h]
      rw [e] at this
      rw [this]
      have hi' : i < zs.length := by omega
      have hb := u8_bd (hwz zs[i] (List.getElem_mem hi'))
      have e2 : zs.getD i 0 = zs[i] := by simp [List.getD, hi']
      have e3 : ((zs.take len).map Int.toNat).getD i 0 = zs[i].toNat := by
        simp [List.getD, List.getElem?_take_of_lt hi, hi']
      rw [e2, e3]
      congr 2
      omega
end Go.Proofs.YtlhjkacdhfchiaaDoor.Bo
