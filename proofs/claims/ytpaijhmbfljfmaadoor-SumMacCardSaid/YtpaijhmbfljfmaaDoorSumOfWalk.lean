/- SumOf's walk. -/
import Derived.Test.YtpaijhmbfljfmaaDoorSg
import Derived.Test.YtpaijhmbfljfmaaDoorSct
import Derived.Test.YtpaijhmbfljfmaaDoorSj
namespace Go.Proofs.YtpaijhmbfljfmaaDoor.SumOfW
set_option linter.unusedVariables false
set_option linter.unusedSimpArgs false
set_option maxRecDepth 100000
open Go.ChangeShapes Go.WideShapes Go.ChangeAt Go.RowKit
open Go.Proofs.YtpaijhmbfljfmaaDoor.Wu Go.Proofs.YtpaijhmbfljfmaaDoor.Sm Go.Proofs.YtpaijhmbfljfmaaDoor.Sk Go.Proofs.YtpaijhmbfljfmaaDoor.Sc Go.Proofs.YtpaijhmbfljfmaaDoor.Sxa Go.Proofs.YtpaijhmbfljfmaaDoor.Sh Go.Proofs.YtpaijhmbfljfmaaDoor.Sn Go.Proofs.YtpaijhmbfljfmaaDoor.Sw0 Go.Proofs.YtpaijhmbfljfmaaDoor.Sx Go.Proofs.YtpaijhmbfljfmaaDoor.Sw Go.Proofs.YtpaijhmbfljfmaaDoor.Sb Go.Proofs.YtpaijhmbfljfmaaDoor.Sf Go.Proofs.YtpaijhmbfljfmaaDoor.So Go.Proofs.YtpaijhmbfljfmaaDoor.Su Go.Proofs.YtpaijhmbfljfmaaDoor.St Go.Proofs.YtpaijhmbfljfmaaDoor.Sg Go.Proofs.YtpaijhmbfljfmaaDoor.Sv Go.Proofs.YtpaijhmbfljfmaaDoor.Srf Go.Proofs.YtpaijhmbfljfmaaDoor.Sct Go.Proofs.YtpaijhmbfljfmaaDoor.Sr Go.Proofs.YtpaijhmbfljfmaaDoor.Rk Go.Proofs.YtpaijhmbfljfmaaDoor.Ro Go.Proofs.YtpaijhmbfljfmaaDoor.Sj
attribute [local go_sem] kUpon_value kUpon_skip kUpon_enter
theorem Parts.below {w w' : World} {a : Option Addr} {Ps : List Part} (h : Parts w a Ps) (hb : Below w.heap.size w w') : Parts w' a Ps := by
  obtain ⟨b, off, h1, h2⟩ := h
  exact ⟨b, off, h1, fun i p hp => ⟨keepC hb (Nat.le_refl _) (h2 i p hp).1, Part.ok.below (h2 i p hp).2 hb⟩⟩
set_option maxHeartbeats 800000 in
theorem walk (a : Option Addr) (len cap : Nat) (w : World) (hT : Tbl w) (hF : Fst w) (hf : IsRows w a len cap) :
    Calls Tryd.prog 3 #[.slice a len cap] w fun e w' => e = .returned (.bool true) ∧ Below w.heap.size w w' := by
  have HKN := hide (known_c w hT hF)
  have HJ := hide (fun (u : World) (hu : Below w.heap.size w u) => join_c a len cap u ⟨hf.1, hf.2.1, fun h => by
    obtain ⟨xb, xo, h1, h2⟩ := hf.2.2 h
    exact ⟨xb, xo, h1, fun i hi => by
      obtain ⟨b, l, c, D, c0, hsD, r⟩ := h2 i hi
      exact ⟨b, l, c, D, keepC hu (Nat.le_refl _) c0, hsD.below hu, r⟩⟩⟩)
  have HT := hide hT
  have HF := hide hF
  clear hT hF hf
  go_enter Tryd.func3, Tryd.ntmps3
  go_wp2_with fail
  refine HKN.out.mono ?_
  rintro e w1 ⟨rfl, hb1⟩
  have HB1 := hide hb1
  clear hb1 HKN
  go_wp2_with fail
  refine (HJ.out w1 HB1.out).mono ?_
  rintro e w2 ⟨a2, c2, Ps, rfl, hP, hn, hfl, hb2⟩
  have HB2 := hide (keepB hb2 (Nat.le_refl _) HB1.out)
  have HC := hide (fun (u : World) (hu : Below w2.heap.size w2 u) => of_c a2 c2 Ps u (Parts.below hP hu) (tbl_keep HT.out (keepB hu (Nat.le_refl _) HB2.out) (Nat.le_refl _)) (fst_keep HF.out (keepB hu (Nat.le_refl _) HB2.out) (Nat.le_refl _)) (by omega) (by omega))
  have HRf : Hid (∀ u : World, Calls Tryd.prog 18 #[.string (Bs.strN (flat Ps))] u fun e w' => e = .returned (.agg (u8s (sha (flat Ps)))) ∧ Below u.heap.size u w') := hide (fun u => refOf_c (flat Ps) u (flat_all hP) (by omega))
  have hq := sum_same (sha (flat Ps)) (sha_length _)
  clear hb2 hP HB1 HJ HT HF
  generalize sha (flat Ps) = X at *
  generalize Bs.strN (flat Ps) = T at *
  generalize Ps.length = n at *
  go_wp2_with fail
  refine (HC.out w2 (Below.refl _ _)).mono ?_
  rintro e w3 ⟨rfl, hb3⟩
  have HB3 := hide (keepB hb3 (Nat.le_refl _) HB2.out)
  clear hb3 HB2 HC
  go_wp2_with fail
  refine (HRf.out w3).mono ?_
  rintro e w4 ⟨rfl, hb4⟩
  have HB4 := hide (keepB hb4 (Nat.le_refl _) HB3.out)
  clear hb4 HB3 HRf
  go_wp2
  go_ret
  exact ⟨rfl, HB4.out⟩
end Go.Proofs.YtpaijhmbfljfmaaDoor.SumOfW
