/- PathJoins' walk. -/
import Derived.Test.YtpaijhmbfljfmaaDoorPf
import Derived.Test.YtpaijhmbfljfmaaDoorPg
import Derived.Test.YtpaijhmbfljfmaaDoorPh
namespace Go.Proofs.YtpaijhmbfljfmaaDoor.PathJoinsW
set_option linter.unusedVariables false
set_option linter.unusedSimpArgs false
set_option maxRecDepth 100000
open Go.ChangeShapes Go.WideShapes Go.RowKit
open Go.Proofs.YtpaijhmbfljfmaaDoor.Wu Go.Proofs.YtpaijhmbfljfmaaDoor.Pm Go.Proofs.YtpaijhmbfljfmaaDoor.Pc Go.Proofs.YtpaijhmbfljfmaaDoor.Pl Go.Proofs.YtpaijhmbfljfmaaDoor.Pd Go.Proofs.YtpaijhmbfljfmaaDoor.Pe Go.Proofs.YtpaijhmbfljfmaaDoor.Er Go.Proofs.YtpaijhmbfljfmaaDoor.Eu Go.Proofs.YtpaijhmbfljfmaaDoor.Ei Go.Proofs.YtpaijhmbfljfmaaDoor.Pf Go.Proofs.YtpaijhmbfljfmaaDoor.Pg Go.Proofs.YtpaijhmbfljfmaaDoor.Ph
set_option maxHeartbeats 1600000 in
theorem out_walk (r s : List UInt8) (w : World) (he : Et w) (hr : r.length ≤ 9223372036854775807) (hs : s.length ≤ 9223372036854775807) (h : 200 < r.length ∨ 200 < s.length) : Calls Tryd.prog 8 #[.string (bs r), .string (bs s)] w (RetT w) := by
  have HC := hide (checks_c w he)
  have z1 := bs_size r
  have z2 := bs_size s
  clear he
  have h' : 200 < r.length ∨ (¬ 200 < r.length ∧ 200 < s.length) := by omega
  clear h
  rcases h' with h1 | ⟨h1, h2⟩
  all_goals
    go_enter Tryd.func8, Tryd.ntmps8
    go_wp2_with fail
    refine HC.out.mono ?_
    rintro e w1 ⟨rfl, hb1⟩
    have HB1 := hide hb1
    clear hb1 HC
    go_wp2
    go_ret
    exact ⟨rfl, HB1.out⟩
/-- A path that is joined is beneath its root, and what it was. -/
theorem ben_joined (r s : List UInt8) (hc : check (joined r s) = none) : ben r (joined r s) = (s, true) := by
  unfold ben joined
  by_cases h0 : r = []
  · rw [if_pos h0, if_pos h0]
    have hs : s ≠ [] := by
      intro e
      unfold joined at hc
      rw [if_pos h0, e] at hc
      exact absurd hc (by decide)
    simp [hs]
  · rw [if_neg h0, if_neg h0]
    have hp : pre r (r ++ [47] ++ s) = true := by
      unfold pre
      rw [List.isPrefixOf_iff_prefix]
      exact ⟨s, rfl⟩
    have hd : (r ++ [47] ++ s).drop (r.length + 1) = s := by
      have : r.length + 1 = (r ++ [47]).length := by simp
      rw [this, List.drop_left]
    rw [if_pos hp, hd]
    have hs : s ≠ [] := by
      intro e
      unfold joined at hc
      rw [if_neg h0, e, List.append_nil] at hc
      obtain ⟨q, hq⟩ := check_last r
      rw [hc] at hq
      cases hq
    simp [hs]
theorem eq_bs (x : List UInt8) : ((bs x).toList == (bs x).toList) = true := beq_self_eq_true _
set_option maxHeartbeats 1600000 in
theorem walk (r s : List UInt8) (w : World) (he : Et w) (hr : r.length ≤ 200) (hs : s.length ≤ 200) : Calls Tryd.prog 8 #[.string (bs r), .string (bs s)] w (RetT w) := by
  have HE : Hid (∀ u, Below w.heap.size w u → Et u) := hide (fun u hu => he.below hu (Nat.le_refl _))
  have HC := hide (checks_c w he)
  have H1 := hide (fun u => join_c r s u (by omega))
  have hjl : (joined r s).length ≤ 1000 := by
    unfold joined
    split
    · omega
    · simp; omega
  have H2 := hide (fun u => refCheck_c (joined r s) u (by omega))
  have H3 := hide (fun u => beneath_c r (joined r s) u)
  have HBJ := hide (ben_joined r s)
  have z1 := bs_size r
  have z2 := bs_size s
  have d1 : decide ((200 : Int) < (r.length : Int)) = false := by simp; omega
  have d2 : decide ((200 : Int) < (s.length : Int)) = false := by simp; omega
  clear he
  obtain ⟨J, hJ⟩ : ∃ J, J = joined r s := ⟨_, rfl⟩
  have hcs : ((bs r).toList.isEmpty = true ∧ J = s) ∨ ((bs r).toList.isEmpty = false ∧ (∀ u : World, Sem.run Tryd.prog (Op.stringOp .add (bs r) ⟨#[47]⟩) u = .ok (.string (bs (r ++ [47]))) u) ∧ (∀ u : World, Sem.run Tryd.prog (Op.stringOp .add (bs (r ++ [47])) (bs s)) u = .ok (.string (bs J)) u)) := by
    by_cases h0 : r = []
    · left; rw [bs_toList, h0, hJ]; unfold joined; rw [if_pos h0]; exact ⟨rfl, rfl⟩
    · right
      refine ⟨by rw [bs_toList]; cases r with | nil => exact absurd rfl h0 | cons => rfl, fun u => add_slash r (by omega) u, fun u => ?_⟩
      rw [hJ]; unfold joined; rw [if_neg h0]
      exact add_bs (r ++ [47]) s (by simp; omega) u
  unfold JoinV at H1
  rw [← hJ] at H1 H2 H3 HBJ
  clear hJ hjl
  rcases hcs with ⟨e0, rfl⟩ | ⟨e0, hA, hB⟩
  all_goals
    go_enter Tryd.func8, Tryd.ntmps8
    go_wp2_with fail
    refine HC.out.mono ?_
    rintro e w1 ⟨rfl, hb1⟩
    have HB1 := hide hb1
    clear hb1 HC
    go_wp2_with fail
    refine (H1.out w1).mono ?_
    rintro e w2 ⟨⟨hc, rfl⟩ | ⟨p, b, hc, rfl, hh⟩, hb2⟩
    · have HB2 := hide (keepB hb2 (Nat.le_refl _) HB1.out)
      rw [hc] at H2
      unfold benV at H3
      rw [HBJ.out hc] at H3
      simp only at H3
      clear hb2 HB1 hc HBJ
      go_wp2_with fail
      refine (H2.out w2).mono ?_
      rintro e w3 ⟨rfl, rfl⟩
      unfold refV
      go_wp2_with fail
      refine (H3.out w3).mono ?_
      rintro e w4 ⟨rfl, rfl⟩
      go_wp2
      go_ret
      exact ⟨rfl, HB2.out⟩
    · have HB2 := hide (keepB hb2 (Nat.le_refl _) HB1.out)
      have Hb := hide hh
      rw [hc] at H2
      clear hb2 HB1 hc HBJ hh
      go_wp2_with fail
      refine (H2.out w2).mono ?_
      rintro e w3 ⟨rfl, rfl⟩
      unfold refV
      go_wp2_with fail
      refine (is_FE b _ 90 90 true rfl _ _ w3 Hb.out).mono ?_
      rintro e w4 ⟨rfl, rfl⟩
      go_wp2_with fail
      refine (place_c _ 90 _ w4 (.inr (.inr ⟨b, _, _, rfl, Hb.out⟩)) (HE.out w4 HB2.out)).mono ?_
      rintro e w5 ⟨rfl, hb5⟩
      have HB5 := hide (keepB hb5 (Nat.le_refl _) HB2.out)
      clear hb5
      go_wp2
      go_ret
      exact ⟨rfl, HB5.out⟩
end Go.Proofs.YtpaijhmbfljfmaaDoor.PathJoinsW
