/- lock: who stands in the way. -/
import Derived.Test.YtlhjkacdhfchiaaDoorLa
import Derived.Test.YtlhjkacdhfchiaaDoorPs
namespace Go.Proofs.YtlhjkacdhfchiaaDoor.Lb
set_option linter.unusedVariables false
set_option linter.unusedSimpArgs false
set_option maxRecDepth 100000
open Go.ChangeShapes Go.WideShapes Go.ChangeAt Go.RowKit
open Go.Proofs.YtlhjkacdhfchiaaDoor.Wu Go.Proofs.YtlhjkacdhfchiaaDoor.Pm Go.Proofs.YtlhjkacdhfchiaaDoor.Pc Go.Proofs.YtlhjkacdhfchiaaDoor.Pl Go.Proofs.YtlhjkacdhfchiaaDoor.Pd Go.Proofs.YtlhjkacdhfchiaaDoor.Pe Go.Proofs.YtlhjkacdhfchiaaDoor.Pg Go.Proofs.YtlhjkacdhfchiaaDoor.Ps Go.Proofs.YtlhjkacdhfchiaaDoor.La
/-- Is it the same path, or one beneath the other? -/
def hits (p q : List UInt8) : Bool := decide (p = q) || (pre p q || pre q p)
def hit (p : List UInt8) (Q : List (List UInt8)) : Bool := Q.any (hits p)
def way (P Q : List (List UInt8)) : Bool := P.any fun p => hit p Q
theorem hit_take {p q : List UInt8} {Q : List (List UInt8)} {j : Nat} (h : Q[j]? = some q) : hit p (Q.take (j + 1)) = (hit p (Q.take j) || hits p q) := by
  unfold hit
  rw [List.take_add_one, h]
  simp [List.any_append]
theorem way_take {p : List UInt8} {P Q : List (List UInt8)} {i : Nat} (h : P[i]? = some p) : way (P.take (i + 1)) Q = (way (P.take i) Q || hit p Q) := by
  unfold way
  rw [List.take_add_one, h]
  simp [List.any_append]
theorem hit_in {p q : List UInt8} {Q : List (List UInt8)} {j : Nat} (h : Q[j]? = some q) (hh : hits p q = true) : hit p Q = true := List.any_eq_true.2 ⟨q, List.mem_of_getElem? h, hh⟩
theorem way_in {p : List UInt8} {P Q : List (List UInt8)} {i : Nat} (h : P[i]? = some p) (hh : hit p Q = true) : way P Q = true := List.any_eq_true.2 ⟨p, List.mem_of_getElem? h, hh⟩
set_option maxHeartbeats 3200000 in
theorem way_c (n n' : Int) (a a' : Option Addr) (m c m' c' : Nat) (P Q : List (List UInt8)) (B : Nat) (T : TypeId) (w : World) (hB : w.heap[B]? = some (.cells #[.int .i64 n', .slice a' m' c'] T (0, 0)))
    (hP : SrcS w a' P) (hPl : P.length = m') (hc' : m' ≤ c') (hm' : c' ≤ 9223372036854775807) (hQ : SrcS w a Q) (hQl : Q.length = m) (hc : m ≤ c) (hm : c ≤ 9223372036854775807) :
    Calls Tryd.prog 80 #[.agg #[.int .i64 n, .slice a m c], .pointer (some ⟨B, 0, none⟩)] w fun e w' => e = .returned (.bool (way P Q)) ∧ Below w.heap.size w w' := by
  have HB := hide (below_new w (.cells #[.int .i64 n, .slice a m c] 111))
  have hP2 := hP.below HB.out
  have hQ2 := hQ.below HB.out
  have hb0 := heap_old hB (.cells #[.int .i64 n, .slice a m c] 111)
  have ha0 := heap_last w (.cells #[.int .i64 n, .slice a m c] 111)
  have c1 := blk_cell (i := 1) hb0 rfl
  have e1 := blk_cell (i := 1) ha0 rfl
  obtain ⟨b, off, ha, hcell⟩ := hQ2
  obtain ⟨b', off', ha', hcell'⟩ := hP2
  rw [hQl] at ha
  rw [hPl] at ha'
  have HC := hide hcell
  have HC' := hide hcell'
  have HA := hide ha
  have HA' := hide ha'
  have HQl := hide hQl
  have HPl := hide hPl
  have HCl := hide (fun p q => clash_c p q (w.alloc (.cells #[.int .i64 n, .slice a m c] 111)))
  clear hcell hcell' ha ha' hQl hPl hP hQ hB hb0 ha0
  go_enter Tryd.func80, Tryd.ntmps80
  go_wp2_with fail
  generalize (w.alloc (.cells #[.int .i64 n, .slice a m c] 111)) = w1 at *
  go_loopw [11] (fun j wr => ∃ i : Nat, j = .int .i64 (i : Int) ∧ i ≤ m' ∧ way (P.take i) Q = false ∧ wr = w1) (fun j _ => m' - (intOf j).toNat)
  case atStart => exact ⟨0, rfl, Nat.zero_le _, by rw [List.take_zero]; rfl, rfl⟩
  case round =>
    obtain ⟨i, rfl, hi, hw0, rfl⟩ := hrel
    have HW := hide hw0
    clear hw0
    by_cases hlt : i < m'
    · obtain ⟨p, hpi⟩ : ∃ p, P[i]? = some p := ⟨P[i]'(by rw [HPl.out]; exact hlt), by rw [List.getElem?_eq_getElem]⟩
      have cp := HC'.out i p hpi
      have HPi := hide hpi
      have ea' := HA'.out (by omega)
      subst ea'
      clear hpi
      have d1 : decide ((i : Int) < (m' : Int)) = true := by simpa using hlt
      have i1 : (0 : Int) ≤ (i : Int) := by omega
      have i2 : (i : Int) < (m' : Int) := by omega
      go_wp2_with fail
      clear d1 i1 i2 cp
      go_loopw [18] (fun j wq => ∃ x : Nat, j = .int .i64 (x : Int) ∧ x ≤ m ∧ hit p (Q.take x) = false ∧ wq = wr) (fun j _ => m - (intOf j).toNat)
      case atStart => exact ⟨0, rfl, Nat.zero_le _, by rw [List.take_zero]; rfl, rfl⟩
      case round =>
        obtain ⟨x, rfl, hx, hh0, rfl⟩ := hrel
        have HH := hide hh0
        clear hh0
        by_cases hlx : x < m
        · obtain ⟨q, hqi⟩ : ∃ q, Q[x]? = some q := ⟨Q[x]'(by rw [HQl.out]; exact hlx), by rw [List.getElem?_eq_getElem]⟩
          have cq := HC.out x q hqi
          have HQi := hide hqi
          have ea := HA.out (by omega)
          subst ea
          clear hqi
          have d1 : decide ((x : Int) < (m : Int)) = true := by simpa using hlx
          have i1 : (0 : Int) ≤ (x : Int) := by omega
          have i2 : (x : Int) < (m : Int) := by omega
          have heq := eq_texts p q
          have HClq := hide (HCl.out p q)
          by_cases hpq : p = q
          · have HR : Hid (way P Q = true) := hide (way_in HPi.out (hit_in HQi.out (by unfold hits; simp [hpq])))
            rw [decide_eq_true hpq] at heq
            clear hpq HClq
            go_wp2
            go_ret
            exact ⟨by rw [HR.out]; rfl, HB.out⟩
          · rw [decide_eq_false hpq] at heq
            cases hcl : (pre p q || pre q p) with
            | true =>
              have HR : Hid (way P Q = true) := hide (way_in HPi.out (hit_in HQi.out (by unfold hits; rw [hcl]; simp)))
              rw [hcl] at HClq
              clear hpq hcl
              go_wp2_with fail
              refine HClq.out.mono ?_
              rintro e w' ⟨rfl, rfl⟩
              go_wp2
              go_ret
              exact ⟨by rw [HR.out]; rfl, HB.out⟩
            | false =>
              have HH2 : Hid (hit p (Q.take (x + 1)) = false) := hide (by
                rw [hit_take HQi.out, HH.out]
                unfold hits
                rw [hcl]
                simp [hpq])
              rw [hcl] at HClq
              clear hpq hcl HH
              go_wp2_with fail
              refine HClq.out.mono ?_
              rintro e w' ⟨rfl, rfl⟩
              go_wp2
              go_roundw
              case rel => exact ⟨x + 1, by go_num, by omega, HH2.out, trivial⟩
              case measure => simp [intOf]; omega
        · obtain rfl : x = m := by omega
          have d1 : decide ((x : Int) < (x : Int)) = false := by simp
          have HW2 : Hid (way (P.take (i + 1)) Q = false) := hide (by
            rw [way_take HPi.out, HW.out]
            have := HH.out
            rw [List.take_of_length_le (by rw [HQl.out]; exact Nat.le_refl _)] at this
            rw [this]
            rfl)
          clear HW HH
          go_wp2
          go_roundw
          case rel => exact ⟨i + 1, by go_num, by omega, HW2.out, trivial⟩
          case measure => simp [intOf]; omega
    · obtain rfl : i = m' := by omega
      have d1 : decide ((i : Int) < (i : Int)) = false := by simp
      have HR : Hid (way P Q = false) := hide (by
        have := HW.out
        rwa [List.take_of_length_le (by rw [HPl.out]; exact Nat.le_refl _)] at this)
      go_wp2
      go_ret
      exact ⟨by rw [HR.out]; rfl, HB.out⟩
end Go.Proofs.YtlhjkacdhfchiaaDoor.Lb
