/- PathBeneath's walk. -/
import Derived.Test.YtpaijhmbfljfmaaDoorPf
import Derived.Test.YtpaijhmbfljfmaaDoorPg
namespace Go.Proofs.YtpaijhmbfljfmaaDoor.PathBeneathW
set_option linter.unusedVariables false
set_option linter.unusedSimpArgs false
set_option maxRecDepth 100000
open Go.ChangeShapes Go.WideShapes Go.RowKit
open Go.Proofs.YtpaijhmbfljfmaaDoor.Wu Go.Proofs.YtpaijhmbfljfmaaDoor.Pm Go.Proofs.YtpaijhmbfljfmaaDoor.Pc Go.Proofs.YtpaijhmbfljfmaaDoor.Pl Go.Proofs.YtpaijhmbfljfmaaDoor.Pd Go.Proofs.YtpaijhmbfljfmaaDoor.Pe Go.Proofs.YtpaijhmbfljfmaaDoor.Er Go.Proofs.YtpaijhmbfljfmaaDoor.Eu Go.Proofs.YtpaijhmbfljfmaaDoor.Ei Go.Proofs.YtpaijhmbfljfmaaDoor.Pf Go.Proofs.YtpaijhmbfljfmaaDoor.Pg
set_option maxHeartbeats 1600000 in
theorem out_walk (r s : List UInt8) (w : World) (he : Et w) (hr : r.length ≤ 9223372036854775807) (hs : s.length ≤ 9223372036854775807) (h : 200 < r.length ∨ 200 < s.length) : Calls Tryd.prog 9 #[.string (bs r), .string (bs s)] w (RetT w) := by
  have HC := hide (checks_c w he)
  have z1 := bs_size r
  have z2 := bs_size s
  clear he
  have h' : 200 < r.length ∨ (¬ 200 < r.length ∧ 200 < s.length) := by omega
  clear h
  rcases h' with h1 | ⟨h1, h2⟩
  all_goals
    go_enter Tryd.func9, Tryd.ntmps9
    go_wp2_with fail
    refine HC.out.mono ?_
    rintro e w1 ⟨rfl, hb1⟩
    have HB1 := hide hb1
    clear hb1 HC
    go_wp2
    go_ret
    exact ⟨rfl, HB1.out⟩
set_option maxHeartbeats 1600000 in
theorem walk (r s : List UInt8) (w : World) (he : Et w) (hr : r.length ≤ 200) (hs : s.length ≤ 200) : Calls Tryd.prog 9 #[.string (bs r), .string (bs s)] w (RetT w) := by
  have HC := hide (checks_c w he)
  have H1 := hide (fun u => beneath_c r s u)
  have H2 := hide (fun u => refBeneath_c r s u hr hs)
  have H3 := hide (fun u => clash_c r s u)
  have H4 := hide (fun u => refClash_c r s u hr hs)
  have H5 : Hid (∀ u, Calls Tryd.prog 38 #[.string (bs s), .string (bs r)] u fun e w' => e = .returned (.bool (pre r s || pre s r)) ∧ w' = u) := hide (fun u => by have := clash_c s r u; rwa [Bool.or_comm] at this)
  have z1 := bs_size r
  have z2 := bs_size s
  have d1 : decide ((200 : Int) < (r.length : Int)) = false := by simp; omega
  have d2 : decide ((200 : Int) < (s.length : Int)) = false := by simp; omega
  clear he
  unfold benV at H1 H2
  generalize ben r s = B at *
  obtain ⟨x, q⟩ := B
  simp only at H1 H2
  have hx := bs_toList x
  generalize (pre r s || pre s r) = c at *
  go_enter Tryd.func9, Tryd.ntmps9
  go_wp2_with fail
  refine HC.out.mono ?_
  rintro e w1 ⟨rfl, hb1⟩
  have HB1 := hide hb1
  clear hb1 HC
  go_wp2_with fail
  refine (H1.out w1).mono ?_
  rintro e w2 ⟨rfl, rfl⟩
  go_wp2_with fail
  refine (H2.out w2).mono ?_
  rintro e w3 ⟨rfl, rfl⟩
  go_wp2_with fail
  refine (H3.out w3).mono ?_
  rintro e w4 ⟨rfl, rfl⟩
  go_wp2_with fail
  refine (H4.out w4).mono ?_
  rintro e w5 ⟨rfl, rfl⟩
  go_wp2_with fail
  refine (H5.out w5).mono ?_
  rintro e w6 ⟨rfl, rfl⟩
  go_wp2_with fail
  refine (H3.out w6).mono ?_
  rintro e w7 ⟨rfl, rfl⟩
  go_wp2
  go_ret
  exact ⟨rfl, HB1.out⟩
end Go.Proofs.YtpaijhmbfljfmaaDoor.PathBeneathW
