/- PathBytes' walk. -/
import Derived.Test.YtpaijhmbfljfmaaDoorPf
import Derived.Test.YtpaijhmbfljfmaaDoorPh
import Derived.Test.YtpaijhmbfljfmaaDoorBs
namespace Go.Proofs.YtpaijhmbfljfmaaDoor.PathBytesW
set_option linter.unusedVariables false
set_option linter.unusedSimpArgs false
set_option maxRecDepth 100000
open Go.ChangeShapes Go.WideShapes Go.RowKit
open Go.Proofs.YtpaijhmbfljfmaaDoor.Wu Go.Proofs.YtpaijhmbfljfmaaDoor.Sm Go.Proofs.YtpaijhmbfljfmaaDoor.Sh Go.Proofs.YtpaijhmbfljfmaaDoor.Ba Go.Proofs.YtpaijhmbfljfmaaDoor.Bs Go.Proofs.YtpaijhmbfljfmaaDoor.Pm Go.Proofs.YtpaijhmbfljfmaaDoor.Pc Go.Proofs.YtpaijhmbfljfmaaDoor.Pl Go.Proofs.YtpaijhmbfljfmaaDoor.Pd Go.Proofs.YtpaijhmbfljfmaaDoor.Pe Go.Proofs.YtpaijhmbfljfmaaDoor.Er Go.Proofs.YtpaijhmbfljfmaaDoor.Eu Go.Proofs.YtpaijhmbfljfmaaDoor.Ei Go.Proofs.YtpaijhmbfljfmaaDoor.Pf Go.Proofs.YtpaijhmbfljfmaaDoor.Ph
theorem strN_bs (l : List UInt8) : strN (l.map (·.toNat)) = bs l := by
  unfold strN strOfNums bs
  simp [Function.comp_def]
/-- A byte that is a path by itself. -/
def gd (c : UInt8) : Bool := decide (97 ≤ c.toNat ∧ c.toNat ≤ 122) || decide (48 ≤ c.toNat ∧ c.toNat ≤ 57) || decide (c.toNat = 95) || decide (c.toNat = 45)
theorem one_all : ∀ n : Nat, n < 256 → (check [UInt8.ofNat n]).isNone = gd (UInt8.ofNat n) ∧ (check [97, UInt8.ofNat n]).isNone = (gd (UInt8.ofNat n) || decide (n = 46)) := by decide +kernel
theorem one (c : UInt8) : (check [c]).isNone = gd c ∧ (check [97, c]).isNone = (gd c || decide (c.toNat = 46)) := by
  have h := one_all c.toNat c.toNat_lt
  rw [UInt8.ofNat_toNat] at h
  exact h
theorem conv1 (c : UInt8) (u : World) : Sem.run Tryd.prog (convert 31 9 (.slice (some ⟨u.heap.size, 0, none⟩) 1 1)) (u.alloc (.cells #[.int .u8 (c.toNat : Int)] 5)) = .ok (.string (bs [c])) (u.alloc (.cells #[.int .u8 (c.toNat : Int)] 5)) := by
  have h : SrcB (u.alloc (.cells #[.int .u8 (c.toNat : Int)] 5)) (some ⟨u.heap.size, 0, none⟩) 1 [c.toNat] :=
    ⟨rfl, fun x hx => by simp at hx; subst hx; exact c.toNat_lt, u.heap.size, 0, fun _ => rfl, fun i hi => by
      obtain rfl : i = 0 := by omega
      exact blk_cell (heap_last u _) rfl⟩
  have h2 := conv_src (cap := 1) h
  rw [h2]
  exact congrArg (fun x => Result.ok (Value.string x) _) (strN_bs [c])
theorem conv2 (c : UInt8) (u : World) : Sem.run Tryd.prog (convert 31 9 (.slice (some ⟨u.heap.size, 0, none⟩) 2 2)) (u.alloc (.cells #[.int .u8 97, .int .u8 (c.toNat : Int)] 5)) = .ok (.string (bs [97, c])) (u.alloc (.cells #[.int .u8 97, .int .u8 (c.toNat : Int)] 5)) := by
  have h : SrcB (u.alloc (.cells #[.int .u8 97, .int .u8 (c.toNat : Int)] 5)) (some ⟨u.heap.size, 0, none⟩) 2 [97, c.toNat] :=
    ⟨rfl, fun x hx => by simp at hx; rcases hx with rfl | rfl <;> first | decide | exact c.toNat_lt, u.heap.size, 0, fun _ => rfl, fun i hi => by
      have hi2 : i = 0 ∨ i = 1 := by omega
      rcases hi2 with rfl | rfl
      · exact blk_cell (heap_last u _) rfl
      · exact blk_cell (i := 1) (heap_last u _) rfl⟩
  have h2 := conv_src (cap := 2) h
  rw [h2]
  exact congrArg (fun x => Result.ok (Value.string x) _) (strN_bs [97, c])
set_option maxHeartbeats 3200000 in
theorem walk (c : UInt8) (w : World) (he : Et w) : Calls Tryd.prog 12 #[.int .u8 (c.toNat : Int)] w (RetT w) := by
  have HC := hide (checks_c w he)
  have H1 := hide (fun u => check_c [c] u (by simp))
  have H2 := hide (fun u => check_c [97, c] u (by simp))
  obtain ⟨o1, o2⟩ := one c
  have V1 := conv1 c
  have V2 := conv2 c
  clear he
  have hn := c.toNat_lt
  unfold gd at o1 o2
  generalize check [c] = r1 at *
  generalize check [97, c] = r2 at *
  generalize bs [c] = B1 at *
  generalize bs [97, c] = B2 at *
  generalize c.toNat = n at *
  have hcl : (97 ≤ n ∧ n ≤ 122) ∨ (48 ≤ n ∧ n ≤ 57) ∨ (95 ≤ n ∧ n ≤ 95) ∨ (45 ≤ n ∧ n ≤ 45) ∨ (46 ≤ n ∧ n ≤ 46) ∨ (((n < 45 ∨ n = 47) ∨ (57 < n ∧ n < 95)) ∨ n = 96 ∨ 122 < n) := by omega
  rcases hcl with h | h | h | h | h | h
  · have q1 : r1.isNone = true := by rw [o1, Bool.eq_iff_iff]; simp; omega
    have q2 : r2.isNone = true := by rw [o2, Bool.eq_iff_iff]; simp; omega
    obtain rfl : r1 = none := by cases r1 with | none => rfl | some p => cases q1
    obtain rfl : r2 = none := by cases r2 with | none => rfl | some p => cases q2
    clear o1 o2 q1 q2
    go_enter Tryd.func12, Tryd.ntmps12
    go_wp2_with fail
    refine HC.out.mono ?_
    rintro e w1 ⟨rfl, hb1⟩
    have HB1 := hide hb1
    clear hb1 HC
    go_wp2_with fail
    all_goals
      refine (H1.out _).mono ?_
      intro e w2 hc
      obtain ⟨rfl, hb2⟩ := Chk.none hc
      have HB2 := hide (keepB hb2 (Nat.le_refl _) (keepB (below_new w1 _) (Nat.le_refl _) HB1.out))
      clear hc hb2
      go_wp2_with fail
      refine (H2.out _).mono ?_
      intro e w3 hc
      obtain ⟨rfl, hb3⟩ := Chk.none hc
      have HB3 := hide (keepB hb3 (Nat.le_refl _) (keepB (below_new w2 _) (Nat.le_refl _) HB2.out))
      clear hc hb3
      go_wp2
      all_goals
        go_ret
        refine ⟨?_, HB3.out⟩
        first
          | rfl
          | (refine congrArg Ending.returned (congrArg Value.bool ?_)
             rw [Bool.eq_iff_iff]
             simp only [Bool.or_eq_true, Bool.and_eq_true, Bool.not_eq_true', Bool.not_eq_eq_eq_not, Bool.not_true, decide_eq_true_eq, decide_eq_false_iff_not, beq_iff_eq, beq_eq_false_iff_ne, ne_eq, Bool.or_eq_false_iff, Bool.and_eq_false_iff, Bool.false_eq_true, false_iff, true_iff, iff_true, iff_false]
             omega)
          | (trace_state; fail "hier")
  · have q1 : r1.isNone = true := by rw [o1, Bool.eq_iff_iff]; simp; omega
    have q2 : r2.isNone = true := by rw [o2, Bool.eq_iff_iff]; simp; omega
    obtain rfl : r1 = none := by cases r1 with | none => rfl | some p => cases q1
    obtain rfl : r2 = none := by cases r2 with | none => rfl | some p => cases q2
    clear o1 o2 q1 q2
    go_enter Tryd.func12, Tryd.ntmps12
    go_wp2_with fail
    refine HC.out.mono ?_
    rintro e w1 ⟨rfl, hb1⟩
    have HB1 := hide hb1
    clear hb1 HC
    go_wp2_with fail
    all_goals
      refine (H1.out _).mono ?_
      intro e w2 hc
      obtain ⟨rfl, hb2⟩ := Chk.none hc
      have HB2 := hide (keepB hb2 (Nat.le_refl _) (keepB (below_new w1 _) (Nat.le_refl _) HB1.out))
      clear hc hb2
      go_wp2_with fail
      refine (H2.out _).mono ?_
      intro e w3 hc
      obtain ⟨rfl, hb3⟩ := Chk.none hc
      have HB3 := hide (keepB hb3 (Nat.le_refl _) (keepB (below_new w2 _) (Nat.le_refl _) HB2.out))
      clear hc hb3
      go_wp2
      all_goals
        go_ret
        refine ⟨?_, HB3.out⟩
        first
          | rfl
          | (refine congrArg Ending.returned (congrArg Value.bool ?_)
             rw [Bool.eq_iff_iff]
             simp only [Bool.or_eq_true, Bool.and_eq_true, Bool.not_eq_true', Bool.not_eq_eq_eq_not, Bool.not_true, decide_eq_true_eq, decide_eq_false_iff_not, beq_iff_eq, beq_eq_false_iff_ne, ne_eq, Bool.or_eq_false_iff, Bool.and_eq_false_iff, Bool.false_eq_true, false_iff, true_iff, iff_true, iff_false]
             omega)
          | (trace_state; fail "hier")
  · have q1 : r1.isNone = true := by rw [o1, Bool.eq_iff_iff]; simp; omega
    have q2 : r2.isNone = true := by rw [o2, Bool.eq_iff_iff]; simp; omega
    obtain rfl : r1 = none := by cases r1 with | none => rfl | some p => cases q1
    obtain rfl : r2 = none := by cases r2 with | none => rfl | some p => cases q2
    clear o1 o2 q1 q2
    have V3 : ∀ u : World, Sem.run Tryd.prog (convert 31 9 (.slice (some ⟨u.heap.size, 0, none⟩) 1 1)) (u.alloc (.cells #[.int .u8 95] 5)) = .ok (.string B1) (u.alloc (.cells #[.int .u8 95] 5)) := fun u => by
      have e : (95 : Int) = (n : Int) := by omega
      rw [e]; exact V1 u
    have V4 : ∀ u : World, Sem.run Tryd.prog (convert 31 9 (.slice (some ⟨u.heap.size, 0, none⟩) 2 2)) (u.alloc (.cells #[.int .u8 97, .int .u8 95] 5)) = .ok (.string B2) (u.alloc (.cells #[.int .u8 97, .int .u8 95] 5)) := fun u => by
      have e : (95 : Int) = (n : Int) := by omega
      rw [e]; exact V2 u
    go_enter Tryd.func12, Tryd.ntmps12
    go_wp2_with fail
    refine HC.out.mono ?_
    rintro e w1 ⟨rfl, hb1⟩
    have HB1 := hide hb1
    clear hb1 HC
    go_wp2_with fail
    all_goals
      refine (H1.out _).mono ?_
      intro e w2 hc
      obtain ⟨rfl, hb2⟩ := Chk.none hc
      have HB2 := hide (keepB hb2 (Nat.le_refl _) (keepB (below_new w1 _) (Nat.le_refl _) HB1.out))
      clear hc hb2
      go_wp2_with fail
      refine (H2.out _).mono ?_
      intro e w3 hc
      obtain ⟨rfl, hb3⟩ := Chk.none hc
      have HB3 := hide (keepB hb3 (Nat.le_refl _) (keepB (below_new w2 _) (Nat.le_refl _) HB2.out))
      clear hc hb3
      go_wp2
      all_goals
        go_ret
        refine ⟨?_, HB3.out⟩
        first
          | rfl
          | (refine congrArg Ending.returned (congrArg Value.bool ?_)
             rw [Bool.eq_iff_iff]
             simp only [Bool.or_eq_true, Bool.and_eq_true, Bool.not_eq_true', Bool.not_eq_eq_eq_not, Bool.not_true, decide_eq_true_eq, decide_eq_false_iff_not, beq_iff_eq, beq_eq_false_iff_ne, ne_eq, Bool.or_eq_false_iff, Bool.and_eq_false_iff, Bool.false_eq_true, false_iff, true_iff, iff_true, iff_false]
             omega)
          | (trace_state; fail "hier")
  · have q1 : r1.isNone = true := by rw [o1, Bool.eq_iff_iff]; simp; omega
    have q2 : r2.isNone = true := by rw [o2, Bool.eq_iff_iff]; simp; omega
    obtain rfl : r1 = none := by cases r1 with | none => rfl | some p => cases q1
    obtain rfl : r2 = none := by cases r2 with | none => rfl | some p => cases q2
    clear o1 o2 q1 q2
    go_enter Tryd.func12, Tryd.ntmps12
    go_wp2_with fail
    refine HC.out.mono ?_
    rintro e w1 ⟨rfl, hb1⟩
    have HB1 := hide hb1
    clear hb1 HC
    go_wp2_with fail
    all_goals
      refine (H1.out _).mono ?_
      intro e w2 hc
      obtain ⟨rfl, hb2⟩ := Chk.none hc
      have HB2 := hide (keepB hb2 (Nat.le_refl _) (keepB (below_new w1 _) (Nat.le_refl _) HB1.out))
      clear hc hb2
      go_wp2_with fail
      refine (H2.out _).mono ?_
      intro e w3 hc
      obtain ⟨rfl, hb3⟩ := Chk.none hc
      have HB3 := hide (keepB hb3 (Nat.le_refl _) (keepB (below_new w2 _) (Nat.le_refl _) HB2.out))
      clear hc hb3
      go_wp2
      all_goals
        go_ret
        refine ⟨?_, HB3.out⟩
        first
          | rfl
          | (refine congrArg Ending.returned (congrArg Value.bool ?_)
             rw [Bool.eq_iff_iff]
             simp only [Bool.or_eq_true, Bool.and_eq_true, Bool.not_eq_true', Bool.not_eq_eq_eq_not, Bool.not_true, decide_eq_true_eq, decide_eq_false_iff_not, beq_iff_eq, beq_eq_false_iff_ne, ne_eq, Bool.or_eq_false_iff, Bool.and_eq_false_iff, Bool.false_eq_true, false_iff, true_iff, iff_true, iff_false]
             omega)
          | (trace_state; fail "hier")
  · have q1 : r1.isNone = false := by rw [o1, Bool.eq_iff_iff]; simp; omega
    have q2 : r2.isNone = true := by rw [o2, Bool.eq_iff_iff]; simp; omega
    obtain ⟨p1, rfl⟩ : ∃ p, r1 = some p := by cases r1 with | none => cases q1 | some p => exact ⟨p, rfl⟩
    obtain rfl : r2 = none := by cases r2 with | none => rfl | some p => cases q2
    clear o1 o2 q1 q2
    go_enter Tryd.func12, Tryd.ntmps12
    go_wp2_with fail
    refine HC.out.mono ?_
    rintro e w1 ⟨rfl, hb1⟩
    have HB1 := hide hb1
    clear hb1 HC
    go_wp2_with fail
    all_goals
      refine (H1.out _).mono ?_
      intro e w2 hc
      obtain ⟨b, rfl, -, hb2⟩ := Chk.some hc
      have HB2 := hide (keepB hb2 (Nat.le_refl _) (keepB (below_new w1 _) (Nat.le_refl _) HB1.out))
      clear hc hb2
      go_wp2_with fail
      refine (H2.out _).mono ?_
      intro e w3 hc
      obtain ⟨rfl, hb3⟩ := Chk.none hc
      have HB3 := hide (keepB hb3 (Nat.le_refl _) (keepB (below_new w2 _) (Nat.le_refl _) HB2.out))
      clear hc hb3
      go_wp2
      all_goals
        go_ret
        refine ⟨?_, HB3.out⟩
        first
          | rfl
          | (refine congrArg Ending.returned (congrArg Value.bool ?_)
             rw [Bool.eq_iff_iff]
             simp only [Bool.or_eq_true, Bool.and_eq_true, Bool.not_eq_true', Bool.not_eq_eq_eq_not, Bool.not_true, decide_eq_true_eq, decide_eq_false_iff_not, beq_iff_eq, beq_eq_false_iff_ne, ne_eq, Bool.or_eq_false_iff, Bool.and_eq_false_iff, Bool.false_eq_true, false_iff, true_iff, iff_true, iff_false]
             omega)
          | (trace_state; fail "hier")
  · have q1 : r1.isNone = false := by rw [o1, Bool.eq_iff_iff]; simp; omega
    have q2 : r2.isNone = false := by rw [o2, Bool.eq_iff_iff]; simp; omega
    obtain ⟨p1, rfl⟩ : ∃ p, r1 = some p := by cases r1 with | none => cases q1 | some p => exact ⟨p, rfl⟩
    obtain ⟨p2, rfl⟩ : ∃ p, r2 = some p := by cases r2 with | none => cases q2 | some p => exact ⟨p, rfl⟩
    clear o1 o2 q1 q2
    go_enter Tryd.func12, Tryd.ntmps12
    go_wp2_with fail
    refine HC.out.mono ?_
    rintro e w1 ⟨rfl, hb1⟩
    have HB1 := hide hb1
    clear hb1 HC
    go_wp2_with fail
    all_goals
      refine (H1.out _).mono ?_
      intro e w2 hc
      obtain ⟨b, rfl, -, hb2⟩ := Chk.some hc
      have HB2 := hide (keepB hb2 (Nat.le_refl _) (keepB (below_new w1 _) (Nat.le_refl _) HB1.out))
      clear hc hb2
      go_wp2_with fail
      refine (H2.out _).mono ?_
      intro e w3 hc
      obtain ⟨b2, rfl, -, hb3⟩ := Chk.some hc
      have HB3 := hide (keepB hb3 (Nat.le_refl _) (keepB (below_new w2 _) (Nat.le_refl _) HB2.out))
      clear hc hb3
      go_wp2
      all_goals
        go_ret
        refine ⟨?_, HB3.out⟩
        first
          | rfl
          | (refine congrArg Ending.returned (congrArg Value.bool ?_)
             rw [Bool.eq_iff_iff]
             simp only [Bool.or_eq_true, Bool.and_eq_true, Bool.not_eq_true', Bool.not_eq_eq_eq_not, Bool.not_true, decide_eq_true_eq, decide_eq_false_iff_not, beq_iff_eq, beq_eq_false_iff_ne, ne_eq, Bool.or_eq_false_iff, Bool.and_eq_false_iff, Bool.false_eq_true, false_iff, true_iff, iff_true, iff_false]
             omega)
          | (trace_state; fail "hier")
end Go.Proofs.YtpaijhmbfljfmaaDoor.PathBytesW
