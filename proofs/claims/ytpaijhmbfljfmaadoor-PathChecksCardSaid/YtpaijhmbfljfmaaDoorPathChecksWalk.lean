/- PathChecks' walk. -/
import Derived.Test.YtpaijhmbfljfmaaDoorPf
namespace Go.Proofs.YtpaijhmbfljfmaaDoor.PathChecksW
set_option linter.unusedVariables false
set_option linter.unusedSimpArgs false
set_option maxRecDepth 100000
open Go.ChangeShapes Go.WideShapes Go.RowKit
open Go.Proofs.YtpaijhmbfljfmaaDoor.Wu Go.Proofs.YtpaijhmbfljfmaaDoor.Pm Go.Proofs.YtpaijhmbfljfmaaDoor.Pc Go.Proofs.YtpaijhmbfljfmaaDoor.Pl Go.Proofs.YtpaijhmbfljfmaaDoor.Pd Go.Proofs.YtpaijhmbfljfmaaDoor.Pe Go.Proofs.YtpaijhmbfljfmaaDoor.Er Go.Proofs.YtpaijhmbfljfmaaDoor.Eu Go.Proofs.YtpaijhmbfljfmaaDoor.Ei Go.Proofs.YtpaijhmbfljfmaaDoor.Pf
set_option maxHeartbeats 1600000 in
theorem walk (l : List UInt8) (w : World) (he : Et w) (hl : l.length ≤ 9223372036854775807) : Calls Tryd.prog 7 #[.string (bs l)] w (RetT w) := by
  have HE : Hid (∀ u, Below w.heap.size w u → Et u) := hide (fun u hu => he.below hu (Nat.le_refl _))
  have HC := hide (checks_c w he)
  have H1 := hide (fun u => check_c l u hl)
  have H2 := hide (fun u => refCheck_c l u hl)
  clear he
  generalize bs l = B at *
  go_enter Tryd.func7, Tryd.ntmps7
  go_wp2_with fail
  refine HC.out.mono ?_
  rintro e w1 ⟨rfl, hb1⟩
  have HB1 := hide hb1
  clear hb1 HC
  go_wp2_with fail
  refine (H1.out w1).mono ?_
  intro e w2 hc
  cases hr : check l with
  | none =>
    rw [hr] at hc H2
    obtain ⟨rfl, hb2⟩ := Chk.none hc
    have HB2 := hide (keepB hb2 (Nat.le_refl _) HB1.out)
    clear hb2 HB1 hc
    go_wp2_with fail
    refine (H2.out w2).mono ?_
    rintro e w3 ⟨rfl, rfl⟩
    unfold refV
    go_wp2
    go_ret
    exact ⟨rfl, HB2.out⟩
  | some p =>
    rw [hr] at hc H2
    obtain ⟨b, rfl, hb, hb2⟩ := Chk.some hc
    have HB2 := hide (keepB hb2 (Nat.le_refl _) HB1.out)
    have Hb := hide hb
    clear hb2 HB1 hc hb
    go_wp2_with fail
    refine (H2.out w2).mono ?_
    rintro e w3 ⟨rfl, rfl⟩
    unfold refV
    go_wp2_with fail
    refine (is_FE b _ 90 90 true rfl _ _ w3 Hb.out).mono ?_
    rintro e w4 ⟨rfl, rfl⟩
    go_wp2_with fail
    refine (place_c _ 90 _ w4 (.inr (.inr ⟨b, _, _, rfl, Hb.out⟩)) (HE.out w4 HB2.out)).mono ?_
    rintro e w5 ⟨rfl, hb5⟩
    have HB5 := hide (keepB hb5 (Nat.le_refl _) HB2.out)
    clear hb5
    go_wp2
    go_ret
    exact ⟨rfl, HB5.out⟩
end Go.Proofs.YtpaijhmbfljfmaaDoor.PathChecksW
