/- Several texts, one behind the other. -/
import Derived.Test.YtpaijhmbfljfmaaDoorSg
import Derived.Test.YtpaijhmbfljfmaaDoorSct
import Derived.Test.YtpaijhmbfljfmaaDoorSj
import Derived.Test.YtpaijhmbfljfmaaDoorSrm
import Derived.Test.YtpaijhmbfljfmaaDoorSumOfWalk
import Derived.Test.YtpaijhmbfljfmaaDoorSo
import Derived.OpenShut
/- SumMac's walk. -/
namespace Go.Proofs.YtpaijhmbfljfmaaDoor.SumMacW
set_option linter.unusedVariables false
set_option linter.unusedSimpArgs false
set_option maxRecDepth 100000
open Go.ChangeShapes Go.WideShapes Go.ChangeAt Go.RowKit
open Go.Proofs.YtpaijhmbfljfmaaDoor.Wu Go.Proofs.YtpaijhmbfljfmaaDoor.Sm Go.Proofs.YtpaijhmbfljfmaaDoor.Sk Go.Proofs.YtpaijhmbfljfmaaDoor.Sc Go.Proofs.YtpaijhmbfljfmaaDoor.Sxa Go.Proofs.YtpaijhmbfljfmaaDoor.Sh Go.Proofs.YtpaijhmbfljfmaaDoor.Sn Go.Proofs.YtpaijhmbfljfmaaDoor.Sw0 Go.Proofs.YtpaijhmbfljfmaaDoor.Sx Go.Proofs.YtpaijhmbfljfmaaDoor.Sw Go.Proofs.YtpaijhmbfljfmaaDoor.Sb Go.Proofs.YtpaijhmbfljfmaaDoor.Sf Go.Proofs.YtpaijhmbfljfmaaDoor.So Go.Proofs.YtpaijhmbfljfmaaDoor.Su Go.Proofs.YtpaijhmbfljfmaaDoor.St Go.Proofs.YtpaijhmbfljfmaaDoor.Sg Go.Proofs.YtpaijhmbfljfmaaDoor.Sv Go.Proofs.YtpaijhmbfljfmaaDoor.Srf Go.Proofs.YtpaijhmbfljfmaaDoor.Sct Go.Proofs.YtpaijhmbfljfmaaDoor.Sr Go.Proofs.YtpaijhmbfljfmaaDoor.Rk Go.Proofs.YtpaijhmbfljfmaaDoor.Ro Go.Proofs.YtpaijhmbfljfmaaDoor.Sj Go.Proofs.YtpaijhmbfljfmaaDoor.Smc Go.Proofs.YtpaijhmbfljfmaaDoor.Srm Go.Proofs.YtpaijhmbfljfmaaDoor.Sy
attribute [local go_sem] kUpon_value kUpon_skip kUpon_enter
set_option maxHeartbeats 1600000 in
theorem walk (ka : Option Addr) (m c : Nat) (L : List Nat) (a : Option Addr) (len cap : Nat) (w : World) (hs : SrcB w ka m L) (hc : m ≤ c) (hT : Tbl w) (hF : Fst w) (hf : IsRows w a len cap) :
    Calls Tryd.prog 4 #[.slice ka m c, .slice a len cap] w fun e w' => e = .returned (.bool true) ∧ Below w.heap.size w w' := by
  have HKN := hide (known_c w hT hF)
  have HJ := hide (fun (u : World) (hu : Below w.heap.size w u) => join_c a len cap u ⟨hf.1, hf.2.1, fun h => by
    obtain ⟨xb, xo, h1, h2⟩ := hf.2.2 h
    exact ⟨xb, xo, h1, fun i hi => by
      obtain ⟨b, l, c, D, c0, hsD, r⟩ := h2 i hi
      exact ⟨b, l, c, D, keepC hu (Nat.le_refl _) c0, hsD.below hu, r⟩⟩⟩)
  obtain ⟨j, hj⟩ : ∃ j : Nat, (m ≤ 200 ∧ j = m) ∨ (200 < m ∧ j = 200) := ⟨min m 200, by omega⟩
  have hsj : SrcB w ka j (L.take j) := by
    have := src_min hs 200
    rw [show min m 200 = j by omega] at this
    exact this
  have HS := hide hsj
  have hlj := hsj.1
  have hL8 := hsj.2.1
  have hjm : j ≤ m := by omega
  have HT := hide hT
  have HF := hide hF
  clear hT hF hf hs hsj
  have hmi : (j ≤ 200 ∧ m = j ∧ min (m : Int) 200 = (m : Int)) ∨ (j = 200 ∧ 200 < m ∧ min (m : Int) 200 = 200) := by omega
  clear hj
  generalize L.take j = K at *
  rcases hmi with ⟨hj, rfl, hmi⟩ | ⟨rfl, hm2, hmi⟩
  all_goals
    go_enter Tryd.func4, Tryd.ntmps4
    go_wp2_with fail
    refine HKN.out.mono ?_
    rintro e w1 ⟨rfl, hb1⟩
    have HB1 := hide hb1
    clear hb1 HKN
    go_wp2_with fail
    clear hmi
    all_goals first | (exfalso; omega) | skip
    refine (HJ.out w1 HB1.out).mono ?_
    rintro e w2 ⟨a2, c2, Ps, rfl, hP, hn, hfl, hb2⟩
    have HB2 := hide (keepB hb2 (Nat.le_refl _) HB1.out)
    have HS2 := hide (HS.out.below HB2.out)
    have HC := hide (fun (u : World) (hu : Below w2.heap.size w2 u) => mac_c ka _ c K a2 c2 Ps u (HS2.out.below hu) (by omega) (SumOfW.Parts.below hP hu) (tbl_keep HT.out (keepB hu (Nat.le_refl _) HB2.out) (Nat.le_refl _)) (fst_keep HF.out (keepB hu (Nat.le_refl _) HB2.out) (Nat.le_refl _)) (by omega) (by omega) (by omega))
    have HRf : Hid (∀ u : World, Calls Tryd.prog 20 #[.string (Bs.strN K), .string (Bs.strN (flat Ps))] u fun e w' => e = .returned (.agg (u8s (macL K (flat Ps)))) ∧ Below u.heap.size u w') := hide (fun u => refMac_c K (flat Ps) u hL8 (flat_all hP) (by omega) (by omega))
    have HCV := hide (fun (u : World) (hu : Below w2.heap.size w2 u) => Bs.conv_src (cap := c) (HS2.out.below hu))
    have hq := sum_same (macL K (flat Ps)) (sha_length _)
    clear hb2 hP HB1 HJ HT HF HS HS2
    generalize macL K (flat Ps) = X at *
    generalize Bs.strN (flat Ps) = T at *
    generalize Bs.strN K = U at *
    generalize Ps.length = n at *
    go_wp2_with fail
    refine wp_region_keep (fun u => Below w2.heap.size w2 u) (by kernel_rfl) (by kernel_rfl) (Below.refl _ _).drew ?_
    repeat (first
      | (refine keep_step (v := ?_) (by rfl) (fun u K hS hK => ?_) ?_
         rotate_left
         · (go_simp; first
            | (go_at_call 19; refine (HC.out _ hS).mono ?_; rintro e u2 ⟨rfl, hu⟩; exact hK _ (keepB hu (Nat.le_refl _) hS))
            | (go_at_call 20; refine (HRf.out _).mono ?_; rintro e u2 ⟨rfl, hu⟩; exact hK _ (keepB hu (Nat.le_refl _) hS))
            | (rw [HCV.out _ hS]; go_simp; exact hK _ hS)
            | (with_reducible exact hK _ hS))
         simp only [Act.put, List.setIfInBounds_toArray, List.set_cons_zero, List.set_cons_succ]))
    refine keep_nil (fun w3 hS3 => ?_)
    have HB3 := hide (keepB hS3 (Nat.le_refl _) HB2.out)
    clear hS3
    go_wp2
    go_ret
    exact ⟨rfl, HB3.out⟩
end Go.Proofs.YtpaijhmbfljfmaaDoor.SumMacW
/- Opening arguments: slices of bytes that came in. -/
namespace Go.Proofs.YtpaijhmbfljfmaaDoor.Sp
set_option linter.unusedVariables false
set_option linter.unusedSimpArgs false
set_option maxRecDepth 100000
open Go.RowKit
open Go.Proofs.YtpaijhmbfljfmaaDoor.Wu Go.Proofs.YtpaijhmbfljfmaaDoor.Sm Go.Proofs.YtpaijhmbfljfmaaDoor.Sh Go.Proofs.YtpaijhmbfljfmaaDoor.Sw0 Go.Proofs.YtpaijhmbfljfmaaDoor.So

theorem i64_bd {n : Int} (h : (Lit.int .i64 n).wf = true) : -9223372036854775808 ≤ n ∧ n ≤ 9223372036854775807 := by
  simp [Lit.wf, IntKind.min, IntKind.max, IntKind.signed, IntKind.bits] at h
  omega
theorem u8_bd {n : Int} (h : (Lit.int .u8 n).wf = true) : 0 ≤ n ∧ n < 256 := by
  simp [Lit.wf, IntKind.min, IntKind.max, IntKind.signed, IntKind.bits] at h
  omega
theorem src_of {w : World} {a : Option Addr} {len cap : Nat} {zs : List Int}
    (h : (a = none ∧ len = 0 ∧ cap = 0 ∧ zs = []) ∨
      ∃ x, a = some x ∧ len ≤ cap ∧ cap ≤ maxLen ∧ zs.length = cap ∧ (∀ i, i < zs.length → w.cell? (x.add i) = some (.int .u8 (zs.getD i 0))) ∧ ∀ n ∈ zs, (Lit.int .u8 n).wf = true) :
    ∃ L : List Nat, SrcB w a len L ∧ len ≤ cap := by
  rcases h with ⟨rfl, rfl, rfl, rfl⟩ | ⟨x, rfl, hl, hm, hz, hcell, hwz⟩
  · exact ⟨[], SrcB.nil w none, Nat.le_refl _⟩
  · by_cases h0 : len = 0
    · subst h0
      exact ⟨[], SrcB.nil w _, hl⟩
    · obtain ⟨b, off, spot⟩ := x
      have hc := hcell 0 (by omega)
      have hspot : spot = none := by simpa [Addr.add] using World.cell?_spot hc
      subst hspot
      have hget : ∀ i, i < len → zs.getD i 0 = ((((zs.take len).map Int.toNat).getD i 0 : Nat) : Int) := by
        intro i hi
        have hi' : i < zs.length := by omega
        have hb := u8_bd (hwz zs[i] (List.getElem_mem hi'))
        simp only [List.getD, List.getElem?_map, List.getElem?_take_of_lt hi, List.getElem?_eq_getElem hi', Option.map_some, Option.getD_some]
        omega
      refine ⟨(zs.take len).map Int.toNat, ⟨by rw [List.length_map, List.length_take]; omega, ?_, b, off, fun _ => rfl, fun i hi => ?_⟩, hl⟩
      · intro z hz'
        simp only [List.mem_map] at hz'
        obtain ⟨y, hy, rfl⟩ := hz'
        have hb := u8_bd (hwz y (List.mem_of_mem_take hy))
        omega
      · have := hcell i (by omega)
        rw [← hget i hi, ← this]
        congr 1
        unfold Addr.add
        split <;> simp_all
end Go.Proofs.YtpaijhmbfljfmaaDoor.Sp
