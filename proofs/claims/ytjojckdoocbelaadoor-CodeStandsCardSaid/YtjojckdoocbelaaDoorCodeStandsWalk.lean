/- CodeStands' walk. -/
import Derived.Test.YtjojckdoocbelaaDoorCl
import Derived.Test.YtjojckdoocbelaaDoorCz
namespace Go.Proofs.YtjojckdoocbelaaDoor.CodeStandsW
set_option linter.unusedVariables false
set_option linter.unusedSimpArgs false
set_option maxRecDepth 100000
open Go.ChangeShapes Go.WideShapes Go.ChangeAt Go.RowKit
open Go.Proofs.YtjojckdoocbelaaDoor.Wu Go.Proofs.YtjojckdoocbelaaDoor.Sm Go.Proofs.YtjojckdoocbelaaDoor.Sh Go.Proofs.YtjojckdoocbelaaDoor.Ba Go.Proofs.YtjojckdoocbelaaDoor.Bp Go.Proofs.YtjojckdoocbelaaDoor.Cr Go.Proofs.YtjojckdoocbelaaDoor.Cl Go.Proofs.YtjojckdoocbelaaDoor.Er Go.Proofs.YtjojckdoocbelaaDoor.Eu Go.Proofs.YtjojckdoocbelaaDoor.Cv Go.Proofs.YtjojckdoocbelaaDoor.Cw Go.Proofs.YtjojckdoocbelaaDoor.Cx Go.Proofs.YtjojckdoocbelaaDoor.Cz
def Post (w : World) (e : Ending) (w' : World) : Prop := e = .returned (.bool true) ∧ Below w.heap.size w w'
theorem equalZ (u : World) : Sem.run Tryd.prog (Op.equalIn 10000 27 (.agg (u8s (zeros 32))) (.agg (u8s (zeros 32)))) u = .ok true u := by kernel_rfl
theorem out_walk (a : Option Addr) (m c : Nat) (more : Int) (w : World) (h : 2000 < m ∨ more < 0 ∨ 20 < more) (hm : m ≤ 9223372036854775807) :
    Calls Tryd.prog 11 #[.slice a m c, .int .i64 more] w (Post w) := by
  have HC := hide (reads_c w)
  go_enter Tryd.func11, Tryd.ntmps11
  go_wp2_with fail
  refine HC.out.mono ?_
  rintro e w1 ⟨rfl, hb⟩
  have HB := hide hb
  clear hb HC
  by_cases h1 : 2000 < m
  · have d1 : decide ((2000 : Int) < (m : Int)) = true := by simp; omega
    have d1' : decide (2000 < m) = true := by simp; omega
    go_wp2
    go_ret
    exact ⟨rfl, HB.out⟩
  · have d1 : decide ((2000 : Int) < (m : Int)) = false := by simp; omega
    have d1' : decide (2000 < m) = false := by simp; omega
    by_cases h2 : more < 0
    · have d2 : decide (more < 0) = true := by simp; omega
      go_wp2
      go_ret
      exact ⟨rfl, HB.out⟩
    · have d2 : decide (more < 0) = false := by simp; omega
      have d3 : decide ((20 : Int) < more) = true := by simp; omega
      go_wp2
      go_ret
      exact ⟨rfl, HB.out⟩
set_option maxHeartbeats 3200000 in
theorem walk (a : Option Addr) (m c q : Nat) (L : List Nat) (w : World) (he : Et w) (hs : SrcB w a m L) (hmc : m ≤ c) (hc : c ≤ 9223372036854775807) (hn : a = none → m = 0) (hm : m ≤ 2000) (hq : q ≤ 20) :
    Calls Tryd.prog 11 #[.slice a m c, .int .i64 (q : Int)] w (Post w) := by
  have HC := hide (reads_c w)
  have HE := hide he
  have HS := hide hs
  have hLm := hs.1
  clear hs he
  have d1 : decide ((2000 : Int) < (m : Int)) = false := by simp; omega
  have d2 : decide ((q : Int) < 0) = false := decide_eq_false (by omega)
  have d3 : decide ((20 : Int) < (q : Int)) = false := by simp; omega
  go_enter Tryd.func11, Tryd.ntmps11
  go_wp2_with fail
  refine HC.out.mono ?_
  rintro e w1 ⟨rfl, hb⟩
  have HB := hide hb
  clear hb HC
  go_wp2_with fail
  refine (read_c a m c w1).mono ?_
  rintro e w2 ⟨rfl, rfl⟩
  have HV := hide (RV.read (c := c) (HS.out.below HB.out) HB.out)
  generalize w1.alloc (.cells #[.slice a m c, .int .i64 0, .int .i64 0, .int .i64 0] 87) = w2 at *
  generalize w1.heap.size = g at *
  clear HB HS d1 d2 d3
  go_wp2_with fail
  go_loopw [6] (fun i wr => ∃ (k : Nat) (s : Rs), i = .int .i64 (k : Int) ∧ k ≤ m + 1 ∧ RV w wr g a m c L s ∧ s.at_ ≤ m ∧ (s.fe = 0 → k ≤ s.at_)) (fun i _ => m + 2 - (intOf i).toNat)
  case atStart => exact ⟨0, ⟨0, 0, 0⟩, rfl, by omega, HV.out, by simp, by simp⟩
  case round =>
    clear HV
    obtain ⟨k, s, rfl, hk, hv, hat, hks⟩ := hrel
    have HV := hide hv
    clear hv
    by_cases hfe : s.fe = 0
    · have hkm := hks hfe
      have d1 : decide ((k : Int) ≤ (m : Int)) = true := by simp; omega
      have d1' : decide (k ≤ m) = true := by simp; omega
      clear hks
      have Hfe := hide hfe
      clear hfe
      go_wp2_with fail
      refine (err_c g a m c s wr HV.out.rd).mono ?_
      rintro e w3 ⟨v, rfl, hor, hb⟩
      have HV3 := hide (HV.out.up hb)
      obtain rfl : v = .nilIface := by
        rcases hor with h | h
        · exact h.2
        · exact absurd Hfe.out h.1
      clear hor hb HV
      go_wp2_with fail
      refine (num_c g a m c L s w3 HV3.out.rd HV3.out.src hat hmc (by omega)).mono ?_
      rintro e w4 ⟨rfl, hr, hg⟩
      have HV4 := hide (HV3.out.step hr hg)
      have Hat := hide (Rs.num_at s L (by omega)).1
      have Hmv := hide (Rs.num_moves s L Hfe.out)
      clear hr hg HV3
      go_wp2
      go_roundw
      case rel => exact ⟨k + 1, s.num L, by go_num, by omega, HV4.out, by rw [← hLm]; exact Hat.out, fun h => by have := Hmv.out h; omega⟩
      case measure => simp [intOf]; omega
    · clear hks hk
      have Hfe := hide hfe
      clear hfe
      have Hst := hide (Rs.byte_stuck s L Hfe.out)
      have Hsn := hide (Rs.num_stuck s L Hfe.out)
      have Hsx := hide (Rs.text_stuck s L Hfe.out)
      have Hss := hide (Rs.sum_stuck s L Hfe.out)
      have Hsf := hide (Rs.fin_stuck s m Hfe.out)
      have hcs : k ≤ m ∨ ¬ k ≤ m := by omega
      rcases hcs with hkm | hkm
      focus
        have d1 : decide ((k : Int) ≤ (m : Int)) = true := by simp; omega
        have d1' : decide (k ≤ m) = true := by simp; omega
        go_wp2_with fail
        refine (err_c g a m c s wr HV.out.rd).mono ?_
        rintro e w3 ⟨v, rfl, hor, hb⟩
        have HV3 := hide (HV.out.up hb)
        obtain ⟨p, rfl⟩ : ∃ p, v = .iface 66 p := by
          rcases hor with h | h
          · exact absurd h.1 Hfe.out
          · exact ⟨_, h.2.1⟩
        clear hor hb HV
        go_wp2_with fail
        clear d1 d1' hkm
      rotate_left
      focus
        have d1 : decide ((k : Int) ≤ (m : Int)) = false := by simp; omega
        have d1' : decide (k ≤ m) = false := by simp; omega
        have HV3 := HV
        clear HV
        go_wp2_with fail
        clear d1 d1' hkm
      all_goals
        refine (err_c g a m c s _ HV3.out.rd).mono ?_
        rintro e w4 ⟨v, rfl, hor, hb⟩
        have HV4 := hide (HV3.out.up hb)
        obtain ⟨p4, rfl⟩ : ∃ p, v = .iface 66 p := by
          rcases hor with h | h
          · exact absurd h.1 Hfe.out
          · exact ⟨_, h.2.1⟩
        clear hor hb HV3
        go_wp2_with fail
        refine (err_c g a m c s w4 HV4.out.rd).mono ?_
        intro e w5 hp
        obtain ⟨v5, rfl, hi5, hb5⟩ := hp.isErr
        have HI5 := hide hi5
        have HV5 := hide (HV4.out.up hb5)
        clear hp hi5 hb5 HV4
        go_wp2_with fail
        refine (number_c v5 _ _ w5 HI5.out (HV5.out.et HE.out)).mono ?_
        rintro e w6 ⟨rfl, hb6⟩
        have HV6 := hide (HV5.out.up hb6)
        clear hb6 HV5 HI5
        go_wp2_with fail
        refine (err_c g a m c s w6 HV6.out.rd).mono ?_
        intro e w7 hp
        obtain ⟨v7, rfl, hi7, hb7⟩ := hp.isErr
        have HI7 := hide hi7
        have HV7 := hide (HV6.out.up hb7)
        clear hp hi7 hb7 HV6
        go_wp2_with fail
        refine (place_c v7 _ _ w7 HI7.out (HV7.out.et HE.out)).mono ?_
        rintro e w8 ⟨rfl, hb8⟩
        have HV8 := hide (HV7.out.up hb8)
        clear hb8 HV7 HI7
        rw [if_neg Hfe.out]
        go_wp2_with fail
        go_loopw [47] (fun j wr => ∃ t : Nat, j = .int .i64 (t : Int) ∧ t ≤ q ∧ RV w wr g a m c L s) (fun j _ => q - (intOf j).toNat)
        case atStart => exact ⟨0, rfl, by omega, HV8.out⟩
        case round =>
          clear HV8
          obtain ⟨t, rfl, ht, hv⟩ := hrel
          have HVr := hide hv
          clear hv
          by_cases htq : t < q
          · have d1 : decide ((t : Int) < (q : Int)) = true := by simp; omega
            go_wp2_with fail
            refine (byte_c g a m c L s wr HVr.out.rd HVr.out.src HVr.out.apart hat hmc (by omega)).mono ?_
            rw [Hst.out.1, Hst.out.2]
            rintro e x1 ⟨rfl, hr, hg⟩
            have HV1 := hide (HVr.out.step hr hg)
            clear hr hg HVr
            go_wp2_with fail
            refine (num_c g a m c L s x1 HV1.out.rd HV1.out.src hat hmc (by omega)).mono ?_
            rw [Hsn.out.1, Hsn.out.2]
            rintro e x2 ⟨rfl, hr, hg⟩
            have HV2 := hide (HV1.out.step hr hg)
            clear hr hg HV1
            go_wp2_with fail
            refine (text_c g a m c L s x2 HV2.out.rd HV2.out.src HV2.out.apart hn hat hmc (by omega)).mono ?_
            rw [Hsx.out.1, Hsx.out.2]
            rintro e x3 ⟨v3, rfl, hor, hr, hg⟩
            obtain rfl : v3 = .slice none 0 0 := by
              rcases hor with h | h
              · exact h.2.1
              · exact absurd h.1 Hfe.out
            have HV3 := hide (HV2.out.step hr hg)
            clear hr hg HV2 hor
            go_wp2_with fail
            refine (sum_c g a m c L s x3 HV3.out.rd HV3.out.src HV3.out.apart hn hat hmc (by omega)).mono ?_
            rw [Hss.out.1, Hss.out.2]
            rintro e x4 ⟨rfl, hr, hg⟩
            have HV4 := hide (HV3.out.step hr hg)
            clear hr hg HV3
            go_wp2_with fail
            rw [zlit8, equalZ]
            simp only [Result.andThen, Bool.not_true]
            go_wp2_with fail
            refine (end_c g a m c s x4 HV4.out.rd (by omega)).mono ?_
            rw [Hsf.out]
            intro e x5 hp
            obtain ⟨v5, rfl, hi5, hr, hg⟩ := hp.isErr
            have HI5 := hide hi5
            have HV5 := hide (HV4.out.step hr hg)
            clear hp hi5 hr hg HV4
            go_wp2_with fail
            refine (number_c v5 _ _ x5 HI5.out (HV5.out.et HE.out)).mono ?_
            rintro e x6 ⟨rfl, hb6⟩
            have HV6 := hide (HV5.out.up hb6)
            clear hb6 HV5 HI5
            go_wp2_with fail
            refine (err_c g a m c s x6 HV6.out.rd).mono ?_
            intro e x7 hp
            obtain ⟨v7, rfl, hi7, hb7⟩ := hp.isErr
            have HI7 := hide hi7
            have HV7 := hide (HV6.out.up hb7)
            clear hp hi7 hb7 HV6
            go_wp2_with fail
            refine (place_c v7 _ _ x7 HI7.out (HV7.out.et HE.out)).mono ?_
            rintro e x8 ⟨rfl, hb8⟩
            have HV8 := hide (HV7.out.up hb8)
            clear hb8 HV7 HI7
            rw [if_neg Hfe.out]
            go_wp2
            go_roundw
            case rel => exact ⟨t + 1, by go_num, by omega, HV8.out⟩
            case measure => simp [intOf]; omega
          · have d1 : decide ((t : Int) < (q : Int)) = false := by simp; omega
            have hne : (s.fe != 0) = true := by rw [bne_iff_ne]; exact Hfe.out
            go_wp2
            go_ret
            exact ⟨rfl, HVr.out.below⟩
end Go.Proofs.YtjojckdoocbelaaDoor.CodeStandsW
