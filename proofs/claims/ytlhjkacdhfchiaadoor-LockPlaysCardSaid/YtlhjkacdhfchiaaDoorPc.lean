/- path's stands and flaw, and the reference's sign. -/
import Derived.Test.YtlhjkacdhfchiaaDoorRows
import Derived.Test.YtlhjkacdhfchiaaDoorPm
import Derived.Test.YtlhjkacdhfchiaaDoorWu
import Derived.WalkKit
import Derived.Lib.Walk
import Derived.Laws.Concat
import Derived.OwnWalk
namespace Go.Proofs.YtlhjkacdhfchiaaDoor.Pc
set_option linter.unusedVariables false
set_option linter.unusedSimpArgs false
set_option maxRecDepth 100000
open Go.ChangeShapes Go.WideShapes Go.RowKit
open Go.Proofs.YtlhjkacdhfchiaaDoor.Wu Go.Proofs.YtlhjkacdhfchiaaDoor.Pm
theorem okB_eq (c : UInt8) : okB c = (decide (97 ≤ c.toNat ∧ c.toNat ≤ 122) || decide (48 ≤ c.toNat ∧ c.toNat ≤ 57) || decide (c.toNat = 95) || decide (c.toNat = 45) || decide (c.toNat = 46)) := rfl
set_option maxHeartbeats 1600000 in
theorem stands_c (c : UInt8) (w : World) : Calls Tryd.prog 122 #[.int .u8 (c.toNat : Int)] w fun e w' => e = .returned (.bool (okB c)) ∧ w' = w := by
  rw [okB_eq]
  have hn := c.toNat_lt
  generalize c.toNat = n at *
  go_enter Tryd.func122, Tryd.ntmps122
  go_wp2
  all_goals
    go_ret
    refine ⟨congrArg Ending.returned (congrArg Value.bool ?_), rfl⟩
    (try simp only [beq_iff_eq, beq_eq_false_iff_ne, ne_eq] at *)
    first
      | (rw [Bool.eq_iff_iff]; simp only [Bool.or_eq_true, Bool.and_eq_true, decide_eq_true_eq, beq_iff_eq, Bool.false_eq_true, false_iff, true_iff]; omega)
      | (trace_state; fail "hier")
set_option maxHeartbeats 1600000 in
theorem sign_c (c : UInt8) (w : World) : Calls Tryd.prog 104 #[.int .u8 (c.toNat : Int)] w fun e w' => e = .returned (.bool (okB c)) ∧ w' = w := by
  rw [okB_eq]
  have hn := c.toNat_lt
  generalize c.toNat = n at *
  go_enter Tryd.func104, Tryd.ntmps104
  go_wp2
  all_goals
    go_ret
    refine ⟨congrArg Ending.returned (congrArg Value.bool ?_), rfl⟩
    (try simp only [beq_iff_eq, beq_eq_false_iff_ne, ne_eq] at *)
    first
      | (rw [Bool.eq_iff_iff]; simp only [Bool.or_eq_true, Bool.and_eq_true, decide_eq_true_eq, beq_iff_eq, Bool.false_eq_true, false_iff, true_iff]; omega)
      | (trace_state; fail "hier")
theorem ba_of {g : ByteArray} {l : List UInt8} (h : g.data.toList = l) : g = ⟨l.toArray⟩ := by
  rw [← h]
theorem ba_ne {g : ByteArray} {l : List UInt8} (h : g.data.toList ≠ l) : (g.toList == l) = false := by
  rw [beq_eq_false_iff_ne, Lib.toList_data]
  exact h
theorem at_ba {g : ByteArray} {k : Nat} (h : k < g.size) : g.data.toList[k]? = some (g[k]'h) := by
  rw [Array.getElem?_toList]
  exact Array.getElem?_eq_getElem h
def flawV (g : List UInt8) : Value := .tuple #[.int .i64 (((flawP g).getD 0 : Nat) : Int), .bool (flawP g).isSome]
set_option maxHeartbeats 1600000 in
theorem flaw_c (g : ByteArray) (w : World) (hg : g.size ≤ 9223372036854775807) : Calls Tryd.prog 107 #[.string g] w fun e w' => e = .returned (flawV g.data.toList) ∧ w' = w := by
  have hsz : g.data.toList.length = g.size := (Lib.size_eq g).symm
  by_cases h0 : g.data.toList = []
  · have e := ba_of h0
    subst e
    go_enter Tryd.func107, Tryd.ntmps107
    go_wp2
    go_ret2
    exact ⟨rfl, rfl⟩
  by_cases h1 : g.data.toList = [46]
  · have e := ba_of h1
    subst e
    go_enter Tryd.func107, Tryd.ntmps107
    go_wp2
    go_ret2
    exact ⟨rfl, rfl⟩
  by_cases h2 : g.data.toList = [46, 46]
  · have e := ba_of h2
    subst e
    go_enter Tryd.func107, Tryd.ntmps107
    go_wp2
    go_ret2
    exact ⟨rfl, rfl⟩
  have e0 := ba_ne h0
  have e1 := ba_ne h1
  have e2 := ba_ne h2
  by_cases h3 : 16 < g.size
  · have hp : flawP g.data.toList = some 0 := by unfold flawP; rw [if_pos (by right; right; right; omega)]
    unfold flawV
    rw [hp]
    go_enter Tryd.func107, Tryd.ntmps107
    go_wp2
    go_ret2
    exact ⟨rfl, rfl⟩
  · have hp : flawP g.data.toList = badAt g.data.toList := by unfold flawP; rw [if_neg (by simp only [h0, h1, h2, false_or]; omega)]
    have HP := hide hp
    clear hp h0 h1 h2
    go_enter Tryd.func107, Tryd.ntmps107
    go_wp2_with fail
    clear e0 e1 e2
    go_loop [22] (fun i => ∃ k : Nat, i = .int .i64 (k : Int) ∧ k ≤ g.size ∧ Hid (∀ j, j < k → ∀ c, g.data.toList[j]? = some c → okB c = true)) (fun i => g.size - (intOf i).toNat)
    case atStart => exact ⟨0, rfl, Nat.zero_le _, hide (fun j hj => absurd hj (by omega))⟩
    case round =>
      obtain ⟨k, rfl, hk, HK⟩ := hrel
      by_cases hlt : k < g.size
      · have hx := at_ba hlt
        cases ho : okB (g[k]'hlt) with
        | true =>
          go_wp2_with (go_at_call 122; refine (stands_c _ _).mono ?_; rintro e w' ⟨rfl, rfl⟩)
          go_round
          case rel => exact ⟨k + 1, by go_num, by omega, hide (fun j hj c hc => by
            by_cases hjk : j < k
            · exact HK.out j hjk c hc
            · have : j = k := by omega
              subst this
              rw [hx] at hc
              injection hc with hc
              rw [← hc]; exact ho)⟩
          case measure => simp [intOf]; omega
        | false =>
          have HV : Hid (badAt g.data.toList = some k) := hide (badAt_is HK.out ⟨_, hx, ho⟩)
          go_wp2_with (go_at_call 122; refine (stands_c _ _).mono ?_; rintro e w' ⟨rfl, rfl⟩)
          go_ret2
          unfold flawV
          rw [HP.out, HV.out]
          exact ⟨rfl, rfl⟩
      · have hkl : k = g.size := by omega
        have HV : Hid (badAt g.data.toList = none) := hide (badAt_none (fun j hj c hc => HK.out j (by omega) c hc))
        go_wp2
        go_ret2
        unfold flawV
        rw [HP.out, HV.out]
        exact ⟨rfl, rfl⟩
end Go.Proofs.YtlhjkacdhfchiaaDoor.Pc
