/- path.Set's against; slices of texts. -/
import Derived.Test.YtlhjkacdhfchiaaDoorPg
import Derived.Maps.AppendAt
namespace Go.Proofs.YtlhjkacdhfchiaaDoor.Ps
set_option linter.unusedVariables false
set_option linter.unusedSimpArgs false
set_option maxRecDepth 100000
open Go.ChangeShapes Go.WideShapes Go.RowKit
open Go.Proofs.YtlhjkacdhfchiaaDoor.Wu Go.Proofs.YtlhjkacdhfchiaaDoor.Pm Go.Proofs.YtlhjkacdhfchiaaDoor.Pc Go.Proofs.YtlhjkacdhfchiaaDoor.Pl Go.Proofs.YtlhjkacdhfchiaaDoor.Pd Go.Proofs.YtlhjkacdhfchiaaDoor.Pe Go.Proofs.YtlhjkacdhfchiaaDoor.Pg
/-- Texts in a slice. -/
def SrcS (w : World) (a : Option Addr) (S : List (List UInt8)) : Prop := ∃ b off, (0 < S.length → a = some ⟨b, off, none⟩) ∧ ∀ i p, S[i]? = some p → w.cell? ⟨b, off + i, none⟩ = some (.string (bs p))
theorem SrcS.below {w w' : World} {a : Option Addr} {S : List (List UInt8)} (h : SrcS w a S) (hb : Below w.heap.size w w') : SrcS w' a S := by
  obtain ⟨b, off, h1, h2⟩ := h
  exact ⟨b, off, h1, fun i p hp => keepC hb (Nat.le_refl _) (h2 i p hp)⟩
/-- What is wrong with a path beside others. -/
def agn (p : List UInt8) : List (List UInt8) → Int
  | [] => 0
  | o :: S => if o = p then 5 else if (pre o p || pre p o) = true then 90 else agn p S
theorem agn_step {p o : List UInt8} {S : List (List UInt8)} {i : Nat} (h : S[i]? = some o) : agn p (S.drop i) = if o = p then 5 else if (pre o p || pre p o) = true then 90 else agn p (S.drop (i + 1)) := by
  have hlt := (List.getElem?_eq_some_iff.1 h).1
  have hg := (List.getElem?_eq_some_iff.1 h).2
  rw [List.drop_eq_getElem_cons hlt, hg]
  rfl
theorem eq_texts (o p : List UInt8) : ((bs o).toList == (bs p).toList) = decide (o = p) := by
  rw [bs_toList, bs_toList]
  by_cases h : o = p
  · simp [h]
  · simp [h]
set_option maxHeartbeats 1600000 in
theorem against_c (a : Option Addr) (cap : Nat) (S : List (List UInt8)) (p : List UInt8) (w : World) (hs : SrcS w a S) (hc : S.length ≤ cap) (hm : cap ≤ 9223372036854775807) :
    Calls Tryd.prog 77 #[.slice a S.length cap, .string (bs p)] w fun e w' => e = .returned (.int .i64 (agn p S)) ∧ w' = w := by
  obtain ⟨b, off, ha, hcell⟩ := hs
  have HC := hide hcell
  have HA := hide ha
  have HCl := hide (fun o => clash_c o p w)
  clear ha hcell
  go_enter Tryd.func77, Tryd.ntmps77
  go_wp2_with fail
  go_loop [9] (fun vi => ∃ i : Nat, vi = .int .i64 (i : Int) ∧ i ≤ S.length ∧ Hid (agn p S = agn p (S.drop i))) (fun vi => S.length - (intOf vi).toNat)
  case atStart => exact ⟨0, rfl, Nat.zero_le _, hide rfl⟩
  case round =>
    obtain ⟨i, rfl, hi, HK⟩ := hrel
    by_cases hlt : i < S.length
    · obtain ⟨o, ho⟩ : ∃ o, S[i]? = some o := ⟨S[i], List.getElem?_eq_getElem hlt⟩
      have hx := HC.out i o ho
      have ha := HA.out (by omega)
      subst ha
      have hk := HK.out.trans (agn_step ho)
      have he := eq_texts o p
      by_cases h1 : o = p
      · have he1 : ((bs o).toList == (bs p).toList) = true := by rw [he]; simpa using h1
        rw [if_pos h1] at hk
        have HR := hide hk
        clear hk he HK ho h1
        go_wp2
        go_ret
        refine ⟨?_, rfl⟩
        rw [HR.out]
        rfl
      · have he1 : ((bs o).toList == (bs p).toList) = false := by rw [he]; simpa using h1
        rw [if_neg h1] at hk
        cases hcl : (pre o p || pre p o) with
        | true =>
          rw [if_pos hcl] at hk
          have HR := hide hk
          have HL := hide (HCl.out o)
          rw [hcl] at HL
          clear hk he HK ho h1 hcl
          go_wp2_with fail
          refine HL.out.mono ?_
          rintro e w' ⟨rfl, rfl⟩
          go_wp2
          go_ret
          refine ⟨?_, rfl⟩
          rw [HR.out]
          rfl
        | false =>
          rw [if_neg (by rw [hcl]; simp)] at hk
          have HR := hide hk
          have HL := hide (HCl.out o)
          rw [hcl] at HL
          clear hk he HK ho h1 hcl
          go_wp2_with fail
          refine HL.out.mono ?_
          rintro e w' ⟨rfl, rfl⟩
          go_wp2
          go_round
          case rel => exact ⟨i + 1, by go_num, by omega, HR⟩
          case measure => simp [intOf]; omega
    · have hie : i = S.length := by omega
      have HN : Hid (agn p S = 0) := hide (by rw [HK.out, hie, List.drop_length]; rfl)
      go_wp2
      go_ret
      refine ⟨?_, rfl⟩
      rw [HN.out]
      rfl
end Go.Proofs.YtlhjkacdhfchiaaDoor.Ps
