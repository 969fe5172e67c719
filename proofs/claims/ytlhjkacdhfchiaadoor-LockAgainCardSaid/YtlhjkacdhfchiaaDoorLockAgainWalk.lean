/- LockAgain's walk. -/
import Derived.Test.YtlhjkacdhfchiaaDoorLs
namespace Go.Proofs.YtlhjkacdhfchiaaDoor.LockAgainW
set_option linter.unusedVariables false
set_option linter.unusedSimpArgs false
set_option maxRecDepth 100000
open Go.ChangeShapes Go.WideShapes Go.ChangeAt Go.RowKit
open Go.Proofs.YtlhjkacdhfchiaaDoor.Wu Go.Proofs.YtlhjkacdhfchiaaDoor.Ps Go.Proofs.YtlhjkacdhfchiaaDoor.Pu Go.Proofs.YtlhjkacdhfchiaaDoor.Px Go.Proofs.YtlhjkacdhfchiaaDoor.Pd Go.Proofs.YtlhjkacdhfchiaaDoor.La Go.Proofs.YtlhjkacdhfchiaaDoor.Lb Go.Proofs.YtlhjkacdhfchiaaDoor.Lg Go.Proofs.YtlhjkacdhfchiaaDoor.Lh Go.Proofs.YtlhjkacdhfchiaaDoor.Li Go.Proofs.YtlhjkacdhfchiaaDoor.Lk Go.Proofs.YtlhjkacdhfchiaaDoor.Lm Go.Proofs.YtlhjkacdhfchiaaDoor.Lo Go.Proofs.YtlhjkacdhfchiaaDoor.Lq Go.Proofs.YtlhjkacdhfchiaaDoor.Lr Go.Proofs.YtlhjkacdhfchiaaDoor.Ls
theorem out_walk (a : Option Addr) (m c : Nat) (w : World) (hg : 20 < m) :
    Calls Tryd.prog 8 #[.slice a m c] w fun e w' => e = .returned (.bool true) ∧ Below w.heap.size w w' := by
  have HH := hide (locks_c w)
  have d1 : decide ((20 : Int) < (m : Int)) = true := by simp; omega
  have d1' : decide (20 < m) = true := by simp; omega
  go_enter Tryd.func8, Tryd.ntmps8
  go_wp2_with fail
  refine HH.out.mono ?_
  rintro e w1 ⟨rfl, hb⟩
  have HB := hide hb
  clear hb
  go_wp2
  go_ret
  exact ⟨rfl, HB.out⟩
set_option maxHeartbeats 3200000 in
theorem in_walk (a : Option Addr) (m c : Nat) (zs : List Int) (w : World) (hm : m ≤ 20)
    (hz : 0 < m → ∃ xb xo, a = some ⟨xb, xo, none⟩ ∧ ∀ i, i < m → w.cell? ⟨xb, xo + i, none⟩ = some (.int .i64 (zs.getD i 0))) :
    Calls Tryd.prog 8 #[.slice a m c] w fun e w' => e = .returned (.bool true) ∧ Below w.heap.size w w' := by
  have HH := hide (locks_c w)
  have d1 : decide ((20 : Int) < (m : Int)) = false := by simp; omega
  have d1' : decide (20 < m) = false := by simp; omega
  have HZ := hide hz
  clear hz
  go_enter Tryd.func8, Tryd.ntmps8
  go_wp2_with fail
  refine HH.out.mono ?_
  rintro e w1 ⟨rfl, hb⟩
  have HN := hide (new_w hb)
  clear hb HH
  go_wp2_with fail
  refine HN.out.mono ?_
  rintro e w2 ⟨rfl, h2⟩
  have H2 := hide h2
  clear h2 HN d1 d1'
  generalize w1.heap.size = P at *
  go_wp2_with fail
  have H3 := hide (H2.out.up (below_new w2 (.cells #[.string ⟨#[120]⟩] 9)))
  have HX : Hid (SrcS (w2.alloc (.cells #[.string ⟨#[120]⟩] 9)) (some ⟨w2.heap.size, 0, none⟩) [X]) := hide (src1 (heap_last w2 (.cells #[.string (bs [120])] 9)))
  generalize w2.alloc (.cells #[.string ⟨#[120]⟩] 9) = w3 at *
  generalize w2.heap.size = A1 at *
  refine (ask_ok H3.out (-1) _ 1 1 _ HX.out rfl (Nat.le_refl _) (by omega) (by simp [X]) qx).mono ?_
  rintro e w4 ⟨rfl, h4⟩
  have H4 := hide h4
  clear h4 H3 HX H2
  go_wp2_with fail
  have H5 := hide (H4.out.up (below_new w4 (.cells #[.string ⟨#[121]⟩] 9)))
  have HX : Hid (SrcS (w4.alloc (.cells #[.string ⟨#[121]⟩] 9)) (some ⟨w4.heap.size, 0, none⟩) [Y]) := hide (src1 (heap_last w4 (.cells #[.string (bs [121])] 9)))
  generalize w4.alloc (.cells #[.string ⟨#[121]⟩] 9) = w5 at *
  generalize w4.heap.size = A2 at *
  refine (ask_ok H5.out (-2) _ 1 1 _ HX.out rfl (Nat.le_refl _) (by omega) (by simp [Y]) qy).mono ?_
  rintro e w6 ⟨rfl, h6⟩
  have H6 := hide h6
  clear h6 H5 HX H4
  go_wp2_with fail
  go_loopw [4, 29] (fun n j wr => ∃ (i : Nat) (ws : List Int), n = .int .i64 ((ws.length : Nat) : Int) ∧ j = .int .i64 (i : Int) ∧ i ≤ m ∧ ws.length ≤ i ∧ Hid (∀ x ∈ ws, 0 ≤ x) ∧ Lw w P P (st1 ws) wr) (fun _ j _ => m - (intOf j).toNat)
  case atStart => exact ⟨0, [], rfl, rfl, Nat.zero_le _, Nat.le_refl _, hide (fun x hx => by cases hx), H6.out⟩
  case round =>
    clear H6
    obtain ⟨i, ws, rfl, rfl, hi, hwi, HPos, hL⟩ := hrel
    have HL := hide hL
    clear hL
    by_cases hlt : i < m
    · have d1 : decide ((i : Int) < (m : Int)) = true := by simpa using hlt
      have i1 : (0 : Int) ≤ (i : Int) := by omega
      have i2 : (i : Int) < (m : Int) := by omega
      obtain ⟨xb, xo, rfl, hcell⟩ := HZ.out (by omega)
      have hcw := keepC HL.out.below (Nat.le_refl _) (hcell i hlt)
      obtain ⟨z, hzd⟩ : ∃ z, z = zs.getD i 0 := ⟨_, rfl⟩
      rw [← hzd] at hcw
      clear hcell hzd
      by_cases hz0 : z < 0
      · have dz : decide (z < 0) = true := by simpa using hz0
        clear hz0
        go_wp2
        go_roundw
        case rel => exact ⟨i + 1, ws, rfl, by go_num, by omega, by omega, HPos, HL.out⟩
        case measure => simp [intOf]; omega
      · have dz : decide (z < 0) = false := by simpa using hz0
        have HC := hide (has_c HL.out.lk z)
        rw [has_st1 ws z (by omega)] at HC
        have HW := hide (fun (u : World) (hu : LkW u P P (st1 ws)) => waits_c hu z)
        rw [wait_st1 ws z (by omega)] at HW
        have Hz0 := hide hz0
        clear hz0
        go_wp2_with fail
        refine HC.out.mono ?_
        rintro e w7 ⟨rfl, hb⟩
        have H7 := hide (HL.out.up hb)
        clear hb HC HL
        go_wp2_with fail
        refine (HW.out w7 H7.out.lk).mono ?_
        rintro e w8 ⟨rfl, hb⟩
        have H8 := hide (H7.out.up hb)
        clear hb HW H7
        by_cases hmem : z ∈ ws
        · rw [decide_eq_true hmem]
          clear hmem
          go_wp2
          go_roundw
          case rel => exact ⟨i + 1, ws, rfl, by go_num, by omega, by omega, HPos, H8.out⟩
          case measure => simp [intOf]; omega
        · rw [decide_eq_false hmem]
          have hask := ask_st1 ws z (by have := Hz0.out; omega) hmem (by omega)
          have HAs := hide hask
          have HPos2 : Hid (∀ x ∈ ws ++ [z], 0 ≤ x) := hide (fun x hx => by
            rcases List.mem_append.1 hx with hx | hx
            · exact HPos.out x hx
            · rw [List.mem_singleton.1 hx]; have := Hz0.out; omega)
          have hl2 : (ws ++ [z]).length = ws.length + 1 := by simp
          have Hl2 := hide hl2
          clear hmem hask hl2
          go_wp2_with fail
          have H9 := hide (H8.out.up (below_new w8 (.cells #[.string ⟨#[120]⟩] 9)))
          have HX : Hid (SrcS (w8.alloc (.cells #[.string ⟨#[120]⟩] 9)) (some ⟨w8.heap.size, 0, none⟩) [X]) := hide (src1 (heap_last w8 (.cells #[.string (bs [120])] 9)))
          generalize w8.alloc (.cells #[.string ⟨#[120]⟩] 9) = w9 at *
          generalize w8.heap.size = A3 at *
          refine (ask_ok H9.out z _ 1 1 _ HX.out rfl (Nat.le_refl _) (by omega) (by simp [X]) HAs.out).mono ?_
          rintro e w10 ⟨rfl, h10⟩
          have H10 := hide h10
          clear h10 H9 HX H8 HAs
          go_wp2
          go_roundw
          case rel => exact ⟨i + 1, ws ++ [z], by rw [Hl2.out]; go_num, by go_num, by omega, by rw [Hl2.out]; omega, HPos2, H10.out⟩
          case measure => simp [intOf]; omega
    · obtain rfl : i = m := by omega
      have d1 : decide ((i : Int) < (i : Int)) = false := by simp
      have HRl := hide (rel_ok HL.out (-1) (find_m1 ws) rfl)
      have e1 : (st1 ws).take 0 ++ (st1 ws).drop (0 + 1) = (-2, [Y]) :: ws.map Ls.ask := by simp [st1]
      have e2 : (st1 ws).length - 1 - 0 = ws.length + 1 := by rw [st1_len]; omega
      rw [e1, e2] at HRl
      have HAs := hide (ask_again ws HPos.out (by omega))
      have HNx := hide (nx_len1 ws)
      have e3 := ask_again ws HPos.out (by omega)
      have e4 := nx_len1 ws
      have hwl : ws.length ≤ 20 := by omega
      clear e1 e2 hwi
      cases ws with
      | nil =>
        have HAs : Hid (askF ((-2, [Y]) :: ([] : List Int).map Ls.ask) (-1) [X] = .inl (st2 [], true)) := hide e3
        have HNx : Hid ((nx ((-2, [Y]) :: ([] : List Int).map Ls.ask) [X] 0 (([] : List Int).length + 1)).length = 0) := hide e4
        clear e3 e4
        go_wp2_with fail
        refine HRl.out.mono ?_
        rintro e w3 ⟨v, rfl, ho, h3⟩
        obtain ⟨av, cv, gv, rfl, -, -, -, -⟩ := ho.form
        have H3 := hide h3
        rw [HNx.out]
        clear h3 ho HRl HL HNx
        go_wp2_with fail
        have H4 := hide (H3.out.up (below_new w3 (.cells #[.string ⟨#[120]⟩] 9)))
        have HX : Hid (SrcS (w3.alloc (.cells #[.string ⟨#[120]⟩] 9)) (some ⟨w3.heap.size, 0, none⟩) [X]) := hide (src1 (heap_last w3 (.cells #[.string (bs [120])] 9)))
        generalize w3.alloc (.cells #[.string ⟨#[120]⟩] 9) = w4 at *
        generalize w3.heap.size = A3 at *
        refine (ask_ok H4.out (-1) _ 1 1 _ HX.out rfl (Nat.le_refl _) (by omega) (by simp [X]) HAs.out).mono ?_
        rintro e w5 ⟨rfl, h5⟩
        have H5 := hide h5
        clear h5 H4 HX H3 HAs
        have HM := hide (has_c H5.out.lk (-2))
        rw [show hasL (st2 []) (-2) = true from has_m2 _] at HM
        go_wp2_with fail
        refine HM.out.mono ?_
        rintro e w6 ⟨rfl, hb⟩
        have H6 := hide (H5.out.up hb)
        clear hb H5 HM
        go_wp2_with fail
        go_loopw [4] (fun n wr => ∃ ws2 : List Int, n = .int .i64 ((ws2.length : Nat) : Int) ∧ ws2.length ≤ 20 ∧ Hid (∀ x ∈ ws2, 0 ≤ x) ∧ Lw w P P (st2 ws2) wr) (fun n _ => (intOf n).toNat)
        case atStart => exact ⟨[], rfl, by simp, HPos, H6.out⟩
        case round =>
          clear H6 HPos
          obtain ⟨ws2, rfl, hl20, HPos, hL⟩ := hrel
          have HL := hide hL
          clear hL
          cases ws2 with
          | nil =>
            have HM1 := hide (has_c HL.out.lk (-1))
            rw [has_end] at HM1
            have HM2 := hide (fun (u : World) (hu : LkW u P P (st2 [])) => has_c hu (-2))
            rw [show hasL (st2 []) (-2) = true from has_m2 _] at HM2
            go_wp2_with fail
            refine HM1.out.mono ?_
            rintro e w7 ⟨rfl, hb⟩
            have H7 := hide (HL.out.up hb)
            clear hb HL HM1
            go_wp2_with fail
            refine (HM2.out w7 H7.out.lk).mono ?_
            rintro e w8 ⟨rfl, hb⟩
            have H8 := hide (H7.out.up hb)
            clear hb H7 HM2
            have HLen := hide (len_c H8.out.lk)
            go_wp2_with fail
            refine HLen.out.mono ?_
            rintro e w9 ⟨rfl, rfl⟩
            have HB := hide H8.out.below
            clear H8 HLen
            go_wp2
            go_ret
            exact ⟨rfl, HB.out⟩
          | cons w0 t =>
            have hw0 : 0 ≤ w0 := HPos.out w0 List.mem_cons_self
            have HPos2 : Hid (∀ x ∈ t, 0 ≤ x) := hide (fun x hx => HPos.out x (List.mem_cons_of_mem _ hx))
            obtain ⟨f1, f2⟩ := find_st2 w0 t hw0
            have HRr := hide (fun (u : World) (hu : Lw w P P (st2 (w0 :: t)) u) => rel_ok hu w0 f1 f2)
            have ecut : (st2 (w0 :: t)).take 1 ++ (st2 (w0 :: t)).drop (1 + 1) = st2 t := cut_st2 w0 t
            rw [ecut] at HRr
            have HHo := hide (holder_c HL.out.lk X)
            rw [hold_st2] at HHo
            have HHo2 : Hid (Calls Tryd.prog 31 #[.pointer (some ⟨P, 0, none⟩), .string ⟨#[120]⟩] wr fun e w' => e = .returned (.tuple #[.int .i64 w0, .bool true]) ∧ Below wr.heap.size wr w') := HHo
            have dm : (w0 == -1) = false := beq_false_of_ne (by omega)
            obtain ⟨tl, htl⟩ : ∃ tl, tl = t.length := ⟨_, rfl⟩
            have e4 : (w0 :: t).length = tl + 1 := by rw [htl]; rfl
            rw [e4] at hl20 ⊢
            have Htl := hide htl
            have dl2 : decide ((0 : Int) < (tl : Int) + 1) = true := decide_eq_true (by omega)
            have hw1 : IntKind.i64.wrap ((tl : Int) + 1 - 1) = (tl : Int) := by
              rw [show (tl : Int) + 1 - 1 = (tl : Int) by omega]
              exact IntWalk.i64_in _ (by omega)
            clear f1 f2 ecut HHo hw0 htl e4 HPos
            go_wp2_with fail
            refine HHo2.out.mono ?_
            rintro e w7 ⟨rfl, hb⟩
            have H7 := hide (HL.out.up hb)
            clear hb HL HHo2
            go_wp2_with fail
            refine (HRr.out w7 H7.out).mono ?_
            rintro e w8 ⟨v2, rfl, ho, h8⟩
            have H8 := hide h8
            clear h8 ho H7 HRr
            go_wp2
            go_roundw
            case rel => exact ⟨t, by rw [← Htl.out], by have := Htl.out; omega, HPos2, H8.out⟩
            case measure => simp [intOf]
      | cons w0 t =>
        have HAs : Hid (askF ((-2, [Y]) :: (w0 :: t).map Ls.ask) (-1) [X] = .inl (st2 (w0 :: t), false)) := hide e3
        have HNx : Hid ((nx ((-2, [Y]) :: (w0 :: t).map Ls.ask) [X] 0 ((w0 :: t).length + 1)).length = 1) := hide e4
        obtain ⟨q, hq⟩ : ∃ q, q = t.length := ⟨_, rfl⟩
        have e5 : (w0 :: t).length = q + 1 := by rw [hq]; rfl
        rw [e5] at hwl HRl HNx ⊢
        have HE5 := hide e5
        have dq : decide ((0 : Int) < (q : Int) + 1) = true := decide_eq_true (by omega)
        have dq0 : ((q : Int) + 1 == 0) = false := beq_false_of_ne (by omega)
        clear e3 e4 e5 hq
        go_wp2_with fail
        refine HRl.out.mono ?_
        rintro e w3 ⟨v, rfl, ho, h3⟩
        obtain ⟨av, cv, gv, rfl, -, -, -, -⟩ := ho.form
        have H3 := hide h3
        rw [HNx.out]
        clear h3 ho HRl HL HNx
        go_wp2_with fail
        have H4 := hide (H3.out.up (below_new w3 (.cells #[.string ⟨#[120]⟩] 9)))
        have HX : Hid (SrcS (w3.alloc (.cells #[.string ⟨#[120]⟩] 9)) (some ⟨w3.heap.size, 0, none⟩) [X]) := hide (src1 (heap_last w3 (.cells #[.string (bs [120])] 9)))
        generalize w3.alloc (.cells #[.string ⟨#[120]⟩] 9) = w4 at *
        generalize w3.heap.size = A3 at *
        refine (ask_ok H4.out (-1) _ 1 1 _ HX.out rfl (Nat.le_refl _) (by omega) (by simp [X]) HAs.out).mono ?_
        rintro e w5 ⟨rfl, h5⟩
        have H5 := hide h5
        clear h5 H4 HX H3 HAs
        have HM := hide (has_c H5.out.lk (-2))
        rw [show hasL (st2 (w0 :: t)) (-2) = true from has_m2 _] at HM
        go_wp2_with fail
        refine HM.out.mono ?_
        rintro e w6 ⟨rfl, hb⟩
        have H6 := hide (H5.out.up hb)
        clear hb H5 HM
        go_wp2_with fail
        go_loopw [4] (fun n wr => ∃ ws2 : List Int, n = .int .i64 ((ws2.length : Nat) : Int) ∧ ws2.length ≤ 20 ∧ Hid (∀ x ∈ ws2, 0 ≤ x) ∧ Lw w P P (st2 ws2) wr) (fun n _ => (intOf n).toNat)
        case atStart => exact ⟨(w0 :: t), by rw [HE5.out]; simp, by rw [HE5.out]; omega, HPos, H6.out⟩
        case round =>
          clear H6 HPos
          obtain ⟨ws2, rfl, hl20, HPos, hL⟩ := hrel
          have HL := hide hL
          clear hL
          cases ws2 with
          | nil =>
            have HM1 := hide (has_c HL.out.lk (-1))
            rw [has_end] at HM1
            have HM2 := hide (fun (u : World) (hu : LkW u P P (st2 [])) => has_c hu (-2))
            rw [show hasL (st2 []) (-2) = true from has_m2 _] at HM2
            go_wp2_with fail
            refine HM1.out.mono ?_
            rintro e w7 ⟨rfl, hb⟩
            have H7 := hide (HL.out.up hb)
            clear hb HL HM1
            go_wp2_with fail
            refine (HM2.out w7 H7.out.lk).mono ?_
            rintro e w8 ⟨rfl, hb⟩
            have H8 := hide (H7.out.up hb)
            clear hb H7 HM2
            have HLen := hide (len_c H8.out.lk)
            go_wp2_with fail
            refine HLen.out.mono ?_
            rintro e w9 ⟨rfl, rfl⟩
            have HB := hide H8.out.below
            clear H8 HLen
            go_wp2
            go_ret
            exact ⟨rfl, HB.out⟩
          | cons w0 t =>
            have hw0 : 0 ≤ w0 := HPos.out w0 List.mem_cons_self
            have HPos2 : Hid (∀ x ∈ t, 0 ≤ x) := hide (fun x hx => HPos.out x (List.mem_cons_of_mem _ hx))
            obtain ⟨f1, f2⟩ := find_st2 w0 t hw0
            have HRr := hide (fun (u : World) (hu : Lw w P P (st2 (w0 :: t)) u) => rel_ok hu w0 f1 f2)
            have ecut : (st2 (w0 :: t)).take 1 ++ (st2 (w0 :: t)).drop (1 + 1) = st2 t := cut_st2 w0 t
            rw [ecut] at HRr
            have HHo := hide (holder_c HL.out.lk X)
            rw [hold_st2] at HHo
            have HHo2 : Hid (Calls Tryd.prog 31 #[.pointer (some ⟨P, 0, none⟩), .string ⟨#[120]⟩] wr fun e w' => e = .returned (.tuple #[.int .i64 w0, .bool true]) ∧ Below wr.heap.size wr w') := HHo
            have dm : (w0 == -1) = false := beq_false_of_ne (by omega)
            obtain ⟨tl, htl⟩ : ∃ tl, tl = t.length := ⟨_, rfl⟩
            have e4 : (w0 :: t).length = tl + 1 := by rw [htl]; rfl
            rw [e4] at hl20 ⊢
            have Htl := hide htl
            have dl2 : decide ((0 : Int) < (tl : Int) + 1) = true := decide_eq_true (by omega)
            have hw1 : IntKind.i64.wrap ((tl : Int) + 1 - 1) = (tl : Int) := by
              rw [show (tl : Int) + 1 - 1 = (tl : Int) by omega]
              exact IntWalk.i64_in _ (by omega)
            clear f1 f2 ecut HHo hw0 htl e4 HPos
            go_wp2_with fail
            refine HHo2.out.mono ?_
            rintro e w7 ⟨rfl, hb⟩
            have H7 := hide (HL.out.up hb)
            clear hb HL HHo2
            go_wp2_with fail
            refine (HRr.out w7 H7.out).mono ?_
            rintro e w8 ⟨v2, rfl, ho, h8⟩
            have H8 := hide h8
            clear h8 ho H7 HRr
            go_wp2
            go_roundw
            case rel => exact ⟨t, by rw [← Htl.out], by have := Htl.out; omega, HPos2, H8.out⟩
            case measure => simp [intOf]
theorem walk_any (a : Option Addr) (m c : Nat) (zs : List Int) (w : World)
    (hz : 0 < m → ∃ xb xo, a = some ⟨xb, xo, none⟩ ∧ ∀ i, i < m → w.cell? ⟨xb, xo + i, none⟩ = some (.int .i64 (zs.getD i 0))) :
    Calls Tryd.prog 8 #[.slice a m c] w fun e w' => e = .returned (.bool true) ∧ Below w.heap.size w w' := by
  by_cases hg : 20 < m
  · exact out_walk a m c w hg
  · exact in_walk a m c zs w (by omega) hz
end Go.Proofs.YtlhjkacdhfchiaaDoor.LockAgainW
