/- CodeLong's walk. -/
import Derived.Test.YtjojckdoocbelaaDoorCl
import Derived.Test.YtjojckdoocbelaaDoorIm
import Derived.Test.YtjojckdoocbelaaDoorRm
namespace Go.Proofs.YtjojckdoocbelaaDoor.CodeLongW
set_option linter.unusedVariables false
set_option linter.unusedSimpArgs false
set_option maxRecDepth 100000
open Go.ChangeShapes Go.WideShapes Go.ChangeAt Go.RowKit
open Go.Proofs.YtjojckdoocbelaaDoor.Wu Go.Proofs.YtjojckdoocbelaaDoor.Sm Go.Proofs.YtjojckdoocbelaaDoor.Sh Go.Proofs.YtjojckdoocbelaaDoor.Ba Go.Proofs.YtjojckdoocbelaaDoor.Bp Go.Proofs.YtjojckdoocbelaaDoor.Bq Go.Proofs.YtjojckdoocbelaaDoor.Bs Go.Proofs.YtjojckdoocbelaaDoor.Cm Go.Proofs.YtjojckdoocbelaaDoor.Cn Go.Proofs.YtjojckdoocbelaaDoor.Cy Go.Proofs.YtjojckdoocbelaaDoor.Cr Go.Proofs.YtjojckdoocbelaaDoor.Cl Go.Proofs.YtjojckdoocbelaaDoor.Er Go.Proofs.YtjojckdoocbelaaDoor.Eu Go.Proofs.YtjojckdoocbelaaDoor.Cv Go.Proofs.YtjojckdoocbelaaDoor.Cw Go.Proofs.YtjojckdoocbelaaDoor.Cx Go.Proofs.YtjojckdoocbelaaDoor.Cz Go.Proofs.YtjojckdoocbelaaDoor.Ik Go.Proofs.YtjojckdoocbelaaDoor.Il Go.Proofs.YtjojckdoocbelaaDoor.Im Go.Proofs.YtjojckdoocbelaaDoor.Rm
def Post (w : World) (e : Ending) (w' : World) : Prop := e = .returned (.bool true) ∧ Below w.heap.size w w'
theorem out_walk (a : Option Addr) (m c : Nat) (more : Int) (w : World) (h : 50 < m ∨ more < -2 ∨ 2 < more) (hm : m ≤ 9223372036854775807) :
    Calls Tryd.prog 12 #[.slice a m c, .int .i64 more] w (Post w) := by
  have HC := hide (reads_c w)
  go_enter Tryd.func12, Tryd.ntmps12
  go_wp2_with fail
  refine HC.out.mono ?_
  rintro e w1 ⟨rfl, hb⟩
  have HB := hide hb
  clear hb HC
  by_cases h1 : 50 < m
  · have d1 : decide ((50 : Int) < (m : Int)) = true := by simp; omega
    have d1' : decide (50 < m) = true := by simp; omega
    go_wp2
    go_ret
    exact ⟨rfl, HB.out⟩
  · have d1 : decide ((50 : Int) < (m : Int)) = false := by simp; omega
    have d1' : decide (50 < m) = false := by simp; omega
    by_cases h2 : more < -2
    · have d2 : decide (more < -2) = true := by simp; omega
      go_wp2
      go_ret
      exact ⟨rfl, HB.out⟩
    · have d2 : decide (more < -2) = false := by simp; omega
      have d3 : decide ((2 : Int) < more) = true := by simp; omega
      go_wp2
      go_ret
      exact ⟨rfl, HB.out⟩
/-- Where the walk through the comparison is: before Text, behind it, behind its text. -/
def T (w : World) (g : Nat) (a : Option Addr) (m c : Nat) (L F : List Nat) (s1 : Rs) (h : List Value) (u : World) : Prop :=
  match h with
  | [] => RV w u g a m c L ⟨0, 0, 0⟩
  | [v] => RV w u g a m c L s1 ∧ ∃ b n k, v = .slice b n k ∧ SrcB u b n F
  | _ => RV w u g a m c L s1
theorem T.below {w u : World} {g : Nat} {a : Option Addr} {m c : Nat} {L F : List Nat} {s1 : Rs} {h : List Value} (t : T w g a m c L F s1 h u) : Below w.heap.size w u := by
  unfold T at t
  split at t
  · exact RV.below t
  · exact RV.below t.1
  · exact RV.below t
set_option maxHeartbeats 3200000 in
theorem walk (a : Option Addr) (m c : Nat) (more : Int) (F : List Nat) (w : World) (he : Et w) (hs : SrcB w a m F) (hmc : m ≤ c) (hc : c ≤ 9223372036854775807) (hn : a = none → m = 0) (hm : m ≤ 50) (hlo : -2 ≤ more) (hhi : more ≤ 2) :
    Calls Tryd.prog 12 #[.slice a m c, .int .i64 more] w (Post w) := by
  have HC := hide (reads_c w)
  have HE := hide he
  have HS := hide hs
  have HFm := hide hs.1
  clear hs he
  have d1 : decide ((50 : Int) < (m : Int)) = false := by simp; omega
  have d1' : decide (50 < m) = false := by simp; omega
  have d2 : decide (more < -2) = false := decide_eq_false (by omega)
  have d3 : decide ((2 : Int) < more) = false := by simp; omega
  go_enter Tryd.func12, Tryd.ntmps12
  go_wp2_with fail
  refine HC.out.mono ?_
  rintro e w1 ⟨rfl, hb⟩
  have HB1 := hide hb
  clear hb HC
  go_wp2_with fail
  refine (text_nil m c a F w1 (HS.out.below HB1.out) hmc hc (by omega) hn).mono ?_
  rintro e w2 ⟨g2, n2, cap2, rfl, hg2, hd2, hb2⟩
  rw [HFm.out] at hd2
  have hF1 : (numL m ++ F).length = n2 := hd2.len
  have h6 := numL_six m (by omega)
  have HLn := hide hF1
  rw [List.length_append, HFm.out] at hF1
  have hn2 : n2 ≤ 60 := by omega
  have HF1 := hide hF1
  have HB2 := hide (keepB hb2 (Nat.le_refl _) HB1.out)
  have HBf : Hid (Buf w2 (.slice (some ⟨g2, 0, none⟩) n2 cap2) w1.heap.size (numL m ++ F)) := by
    refine hide (Or.inr ⟨g2, cap2, ?_, hg2, ?_⟩)
    · rw [hd2.len]
    · rw [hd2.len]; exact hd2
  have hN2 := hb2.size
  have h12 := HB1.out.size
  clear hF1 h6 hd2 hb2
  obtain ⟨M, hM⟩ : ∃ M : Nat, 4096 + more = (M : Int) := ⟨(4096 + more).toNat, by omega⟩
  go_wp2_with fail
  refine (num_any (.slice (some ⟨g2, 0, none⟩) n2 cap2) w1.heap.size (numL m ++ F) (M : Int) w2 HBf.out hN2 (by rw [HLn.out]; omega)).mono ?_
  rintro e w3 ⟨v3, rfl, hbuf, hb3⟩
  have hcl : cl (M : Int) = M := by
    unfold cl
    rw [if_neg (by omega), if_neg (by omega)]
    omega
  rw [hcl] at hbuf
  have h6 := numL_six M (by omega)
  have hp := numL_pos M
  obtain ⟨g3, n3, cap3, rfl, hg3, hn3, hd3⟩ : ∃ g n cap, v3 = .slice (some ⟨g, 0, none⟩) n cap ∧ w1.heap.size ≤ g ∧ n ≤ 70 ∧ Dst w3 g n cap (numL m ++ F ++ numL M) := by
    rcases hbuf with ⟨_, h0⟩ | ⟨g, cap, h1, h2, h3⟩
    · rw [(List.append_eq_nil_iff.1 h0).2] at hp
      exact absurd hp (by simp)
    · refine ⟨g, _, cap, h1, h2, ?_, h3⟩
      rw [List.length_append, HLn.out]
      omega
  obtain ⟨X, hX⟩ : ∃ X, X = numL m ++ F ++ numL M := ⟨_, rfl⟩
  rw [← hX] at hd3
  have HX := hide hX
  have HD3 := hide hd3
  have HB3 := hide (HB2.out.trans ⟨hb3.os, hb3.tape, hb3.output, hb3.size, fun k hk => hb3.block k (by omega)⟩)
  clear hbuf hb3 hd3 hcl h6 hp HBf HB2 hN2 HB1 hX
  go_wp2_with (refine wpList_append_zeros rfl _ _ rfl g3 n3 cap3 X M rfl rfl HD3.out (by omega) ?_)
  intro g4 cap4 w4 HD4 HG4 hgg4
  refine of_hid ?_
  have h3s := HB3.out.size
  have HB4 := hide (belowG HB3.out HG4.out (by omega) h3s)
  obtain ⟨L, hL⟩ : ∃ L, L = X ++ List.replicate M 0 := ⟨_, rfl⟩
  rw [← hL] at HD4
  have HSr := hide HD4.out.src
  have hfit := HD4.out.fit
  have hmax := HD4.out.max
  unfold maxLen at hmax
  have HL1 : Hid (L = [] ++ (numL m ++ (F ++ (numL M ++ List.replicate M 0)))) := hide (by rw [hL, HX.out]; simp)
  have HL2 : Hid (L = (numL m ++ F) ++ (numL M ++ (List.replicate M 0 ++ []))) := hide (by rw [hL, HX.out]; simp)
  have HLl := hide HD4.out.len
  clear hL HD4 HG4 HB3 HD3
  obtain ⟨m4, hm4⟩ : ∃ m4, m4 = n3 + M := ⟨_, rfl⟩
  have hm4' : m4 ≤ 10000 := by omega
  rw [← hm4] at HSr HLl hfit ⊢
  clear hm4
  go_wp2_with fail
  refine (read_c (some ⟨g4, 0, none⟩) m4 cap4 w4).mono ?_
  rintro e w5 ⟨rfl, rfl⟩
  have HV := hide (RV.read (c := cap4) HSr.out HB4.out)
  generalize w4.alloc (.cells #[.slice (some ⟨g4, 0, none⟩) m4 cap4, .int .i64 0, .int .i64 0, .int .i64 0] 87) = w5 at *
  generalize w4.heap.size = g at *
  clear HB4 HSr
  have hbk := text_back [] F (numL M ++ List.replicate M 0) 0 m 0 rfl HFm.out (by omega)
  rw [← HL1.out] at hbk
  have hs1 : (0 + (numL m).length + m) = n2 := by rw [Nat.zero_add]; exact HF1.out
  rw [hs1] at hbk
  have HT1 := hide hbk
  clear hbk hs1
  have mixed : Tryd.prog.follows Departure.mixedOrders = true := by kernel_rfl
  have HT0 : Hid (T w g (some ⟨g4, 0, none⟩) m4 cap4 L F ⟨n2, 0, 0⟩ [] w5.drew) := hide (HV.out.up (Below.refl _ _).drew)
  have HFr := hide (fun u (hu : Below w.heap.size w u) => conv_src (cap := c) (HS.out.below hu))
  clear HV
  go_wp2_with fail
  refine wp_region_d (T w g (some ⟨g4, 0, none⟩) m4 cap4 L F ⟨n2, 0, 0⟩) [some ?_, none, none, some ?_, some ?_, some ?_] mixed (by kernel_rfl) [1, 2] rfl (by kernel_rfl) HT0.out ?_
  rotate_left 4
  · refine lexF_step (by rfl) (fun h u K hT hK => ?_) ?_
    · go_simp
      exact hK _ hT
    simp only [Act.put, List.setIfInBounds_toArray, List.set_cons_zero, List.set_cons_succ]
    refine lexD_step (by rfl) (fun u K hT hK => ?_) (fun v23 => ?_)
    · go_simp
      have hv : RV w u g (some ⟨g4, 0, none⟩) m4 cap4 L ⟨0, 0, 0⟩ := hT
      refine (text_c g (some ⟨g4, 0, none⟩) m4 cap4 L ⟨0, 0, 0⟩ u hv.rd hv.src hv.apart (fun h => by cases h) (Nat.zero_le _) hfit (by omega)).mono ?_
      rw [HT1.out.1, HT1.out.2]
      rintro e u' ⟨v, rfl, hor, hr, hg⟩
      obtain ⟨b, k, rfl, hsr⟩ : ∃ b k, v = .slice b F.length k ∧ SrcB u' b F.length F := by
        rcases hor with h | ⟨_, b, k, h1, h2, h3⟩
        · exact absurd rfl h.1
        · exact ⟨_, k, h1, h3.src⟩
      exact hK _ _ ⟨hv.step hr hg, b, _, k, rfl, hsr⟩
    simp only [Act.put, List.setIfInBounds_toArray, List.set_cons_zero, List.set_cons_succ]
    refine lexE_step (v := .string (strN F)) (by rfl) (fun u K hT hK => ?_) ?_
    · obtain ⟨hv, b, n, k, rfl, hsr⟩ := hT
      go_simp
      rw [conv_src hsr]
      go_simp
      exact hK _ hv
    simp only [Act.put, List.setIfInBounds_toArray, List.set_cons_zero, List.set_cons_succ]
    repeat (
      refine lexF_step (by rfl) (fun h u K hT hK => ?_) ?_
      · (first
          | (go_simp; exact hK _ hT)
          | (go_simp; rw [HFr.out u (T.below hT)]; go_simp; exact hK _ hT))
      simp only [Act.put, List.setIfInBounds_toArray, List.set_cons_zero, List.set_cons_succ])
    refine lexD_nil (fun w6 hT6 => ?_)
    have HV6 : Hid (RV w w6 g (some ⟨g4, 0, none⟩) m4 cap4 L ⟨n2, 0, 0⟩) := hide hT6
    clear hT6 HT0 HT1 HFr
    have hLl : L.length = m4 := HLl.out
    have hLm : n2 + (numL M).length + M = m4 := by
      rw [← hLl, HL2.out]
      simp only [List.length_append, List.length_replicate, List.length_nil]
      have := HF1.out
      have := HFm.out
      omega
    have hn24 : n2 ≤ m4 := by omega
    by_cases hlong : 4096 < M
    · have d4 : decide ((0 : Int) < more) = true := by simp; omega
      have hbk := text_long (numL m ++ F) (List.replicate M 0 ++ []) n2 M 0 HLn.out hlong (by omega)
      rw [← HL2.out] at hbk
      have HT2 := hide hbk
      clear hbk hLm hLl
      go_wp2_with fail
      refine (text_c g (some ⟨g4, 0, none⟩) m4 cap4 L ⟨n2, 0, 0⟩ w6 HV6.out.rd HV6.out.src HV6.out.apart (fun h => by cases h) hn24 hfit (by omega)).mono ?_
      rw [HT2.out.1, HT2.out.2]
      rintro e w7 ⟨v7, rfl, hor, hr, hg⟩
      obtain rfl : v7 = .slice none 0 0 := by
        rcases hor with h | h
        · exact h.2.1
        · exact absurd h.1 (by show ¬ (2 : Int) = 0; decide)
      have HV7 := hide (HV6.out.step hr hg)
      clear hr hg HV6 hor HT2
      go_wp2_with fail
      refine (err_c g (some ⟨g4, 0, none⟩) m4 cap4 ⟨n2, (n2 : Int), 2⟩ w7 HV7.out.rd).mono ?_
      intro e w8 hp
      obtain ⟨v8, rfl, hi8, hb8⟩ := hp.isErr
      have HI8 := hide hi8
      have HV8 := hide (HV7.out.up hb8)
      clear hp hi8 hb8 HV7
      go_wp2_with fail
      refine (number_c v8 _ _ w8 HI8.out (HV8.out.et HE.out)).mono ?_
      rintro e w9 ⟨rfl, hb9⟩
      have HV9 := hide (HV8.out.up hb9)
      clear hb9 HV8 HI8
      go_wp2_with fail
      refine (err_c g (some ⟨g4, 0, none⟩) m4 cap4 ⟨n2, (n2 : Int), 2⟩ w9 HV9.out.rd).mono ?_
      intro e x1 hp
      obtain ⟨v1, rfl, hi1, hb1⟩ := hp.isErr
      have HI1 := hide hi1
      have HV1 := hide (HV9.out.up hb1)
      clear hp hi1 hb1 HV9
      go_wp2_with fail
      refine (place_c v1 _ _ x1 HI1.out (HV1.out.et HE.out)).mono ?_
      rintro e x2 ⟨rfl, hb2⟩
      have HV2 := hide (HV1.out.up hb2)
      clear hb2 HV1 HI1
      go_wp2
      go_ret
      exact ⟨rfl, HV2.out.below⟩
    · have d4 : decide ((0 : Int) < more) = false := by simp; omega
      have hbk := text_back (numL m ++ F) (List.replicate M 0) [] n2 M 0 HLn.out (by simp) (by omega)
      rw [← HL2.out, hLm] at hbk
      have HT2 := hide hbk
      clear hbk hLm hLl
      go_wp2_with fail
      refine (text_c g (some ⟨g4, 0, none⟩) m4 cap4 L ⟨n2, 0, 0⟩ w6 HV6.out.rd HV6.out.src HV6.out.apart (fun h => by cases h) hn24 hfit (by omega)).mono ?_
      rw [HT2.out.1, HT2.out.2]
      rintro e w7 ⟨v7, rfl, hor, hr, hg⟩
      obtain ⟨b, k, rfl⟩ : ∃ b k, v7 = .slice b M k := by
        rcases hor with h | ⟨_, b, k, h1, h2, h3⟩
        · exact absurd rfl h.1
        · rw [List.length_replicate] at h1
          exact ⟨_, k, h1⟩
      have HV7 := hide (HV6.out.step hr hg)
      clear hr hg HV6 hor HT2
      go_wp2_with fail
      refine (end_c g (some ⟨g4, 0, none⟩) m4 cap4 ⟨m4, 0, 0⟩ w7 HV7.out.rd (by omega)).mono ?_
      have hfin : (Rs.mk m4 0 0).fin m4 = ⟨m4, 0, 0⟩ := by
        unfold Rs.fin
        rw [if_neg]
        simp
      rw [hfin]
      clear hfin
      rintro e w8 ⟨v8, rfl, hor, hr, hg⟩
      obtain rfl : v8 = .nilIface := by
        rcases hor with h | h
        · exact h.2
        · exact absurd rfl h.1
      have HV8 := hide (HV7.out.step hr hg)
      clear hr hg HV7 hor
      go_wp2
      go_ret
      exact ⟨rfl, HV8.out.below⟩
end Go.Proofs.YtjojckdoocbelaaDoor.CodeLongW
