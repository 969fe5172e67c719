/- lock: Release's walk. -/
import Derived.Test.YtlhjkacdhfchiaaDoorLk
namespace Go.Proofs.YtlhjkacdhfchiaaDoor.Lm
set_option linter.unusedVariables false
set_option linter.unusedSimpArgs false
set_option maxRecDepth 100000
open Go.ChangeShapes Go.WideShapes Go.ChangeAt Go.RowKit
open Go.Proofs.YtlhjkacdhfchiaaDoor.Wu Go.Proofs.YtlhjkacdhfchiaaDoor.Rk Go.Proofs.YtlhjkacdhfchiaaDoor.Rg Go.Proofs.YtlhjkacdhfchiaaDoor.Ps Go.Proofs.YtlhjkacdhfchiaaDoor.Pu Go.Proofs.YtlhjkacdhfchiaaDoor.Px Go.Proofs.YtlhjkacdhfchiaaDoor.La Go.Proofs.YtlhjkacdhfchiaaDoor.Lb Go.Proofs.YtlhjkacdhfchiaaDoor.Lc Go.Proofs.YtlhjkacdhfchiaaDoor.Ld Go.Proofs.YtlhjkacdhfchiaaDoor.Le Go.Proofs.YtlhjkacdhfchiaaDoor.Lg Go.Proofs.YtlhjkacdhfchiaaDoor.Lh Go.Proofs.YtlhjkacdhfchiaaDoor.Li Go.Proofs.YtlhjkacdhfchiaaDoor.Lj Go.Proofs.YtlhjkacdhfchiaaDoor.Lk
open Go.Proofs.YtlhjkacdhfchiaaDoor.Ba (of_hid)
attribute [local go_sem] kUpon_value kUpon_skip kUpon_enter
set_option maxHeartbeats 6400000 in
theorem release_c {w : World} {N P : Nat} {L : List Wh} (h : LkW w N P L) (who : Int) (hN : N ≤ w.heap.size) :
    Calls Tryd.prog 25 #[.pointer (some ⟨P, 0, none⟩), .int .i64 who] w (RelR w N P L who) := by
  have HF := hide (find_l h who)
  have HL := hide h
  cases hf : L.findIdx? (whoIs who) with
  | none =>
    rw [placeL_none hf] at HF
    have HR : Hid (∀ w', Below w.heap.size w w' → RelR w N P L who (.returned (.tuple #[.slice none 0 0, .int .i64 4])) w') := hide (fun w' hb => by
      unfold RelR; rw [hf]; exact ⟨rfl, hb⟩)
    generalize RelR w N P L who = R at *
    clear hf h
    go_enter Tryd.func25, Tryd.ntmps25
    go_wp2_with fail
    refine HF.out.mono ?_
    rintro e w1 ⟨rfl, hb⟩
    have HZ := hide (HR.out w1 hb)
    clear hb
    go_wp2
    exact HZ.out
  | some i =>
    obtain ⟨e1, e2⟩ := placeL_some hf
    rw [e1] at HF
    obtain ⟨v, us, hA⟩ := h
    have hil : i < us.length := by rw [hA.len]; exact e2
    have hex : ∃ x, L[i]? = some x := ⟨L[i], List.getElem?_eq_getElem e2⟩
    obtain ⟨⟨xw, T⟩, hx⟩ := hex
    have hexu : ∃ u, us[i]? = some u := ⟨us[i], List.getElem?_eq_getElem hil⟩
    obtain ⟨⟨n0, aX, mX, cX⟩, hu⟩ := hexu
    have hOx := (hA.each i _ _ hu hx).2
    unfold pv at hOx
    simp only at hOx
    obtain ⟨g, c, rfl, hlc⟩ : ∃ g c, v = .slice (some ⟨g, 0, none⟩) us.length c ∧ us.length ≤ c := by
      rcases hA.own.2 with ⟨_, hn⟩ | ⟨g, cap, cur, rfl, _, _, hl, _⟩
      · omega
      · exact ⟨g, cap, rfl, hl⟩
    obtain ⟨m, hm⟩ : ∃ m, us.length = i + m + 1 := ⟨us.length - 1 - i, by omega⟩
    have hLm : L.length = i + m + 1 := by rw [← hA.len]; exact hm
    obtain ⟨a', c', hv', hIs⟩ := hA.form
    injection hv' with q1 _ q3
    subst q1 q3
    obtain ⟨-, -, hc3, g', off', ha', hcell⟩ := hIs
    have ha2 := ha' (by omega)
    injection ha2 with ha2
    injection ha2 with r1 r2 _
    subst r1 r2
    have HCell := hide (hcell i _ hu)
    have HA := hide hA
    have HOx := hide hOx
    have hfew := hA.few
    have hb64 : i + m ≤ 64 := by omega
    obtain ⟨L', hL'⟩ : ∃ L', L' = L.take i ++ L.drop (i + 1) := ⟨_, rfl⟩
    have hl' : L'.length = i + m := by rw [hL', List.length_append, List.length_take, List.length_drop]; omega
    have HR : Hid (∀ w' v, OwnN w' w.heap.size v (nx L' T i m) → LkW w' N P L' → Kp w w' → Below N w w' → RelR w N P L who (.returned (.tuple #[v, .int .i64 0])) w') := hide (fun w' v h1 h2 h3 h4 => by
      unfold RelR; rw [hf]
      refine ⟨v, (xw, T), hx, rfl, ?_, by rw [← hL']; exact h2, h3, h4⟩
      rw [← hL', show L.length - 1 - i = m by omega]
      exact h1)
    have HLe := hide hL'
    have Hl' := hide hl'
    generalize RelR w N P L who = R at *
    have d0 : decide ((i : Int) < 0) = false := by simp
    have i1 : (0 : Int) ≤ (i : Int) := by omega
    have i2 : (i : Int) < (i : Int) + (m : Int) + 1 := by omega
    have hw1 : IntKind.i64.wrap ((i : Int) + 1) = (i : Int) + 1 := IntWalk.i64_in _ (by omega)
    clear hf e1 e2 hA hil hx hu hOx hlc hc3 ha' hcell hfew hL' hl' HL
    rw [hm] at HA
    go_enter Tryd.func25, Tryd.ntmps25
    go_wp2_with fail
    refine HF.out.mono ?_
    rintro e w1 ⟨rfl, hb⟩
    have HB1 := hide hb
    have HA1 := hide (HA.out.below hb)
    have c0 := blk_cell (i := 0) HA1.out.obj rfl
    have k0 := keepC hb (Nat.le_refl _) HCell.out.1
    have k1 := keepC hb (Nat.le_refl _) HCell.out.2
    unfold pv at k1
    simp only at k0 k1
    rw [Nat.zero_add] at k0 k1
    have hPR := heap_lt HA1.out.obj
    clear hb HF
    go_wp2_with fail
    have hb2 := below_new w1 (.cells #[.int .i64 n0, .slice aX mX cX] 111)
    have HA2 := hide (HA1.out.below hb2)
    have HB2 := hide (keepB hb2 (Nat.le_refl _) HB1.out)
    have HX2 := hide (heap_last w1 (.cells #[.int .i64 n0, .slice aX mX cX] 111))
    have HOx2 := hide (own_up HOx.out HB2.out)
    have hgR : g < w1.heap.size := by
      have h1 := (HA1.out.own.2)
      rcases h1 with ⟨h1, _⟩ | ⟨g', _, _, h1, _, hg, _⟩
      · cases h1
      · injection h1 with h1
        injection h1 with h1
        injection h1 with h1
        rw [h1]
        exact heap_lt hg
    clear hb2 HB1 HA1 HOx k0 k1 c0
    generalize w1.alloc (.cells #[.int .i64 n0, .slice aX mX cX] 111) = w2 at *
    generalize w1.heap.size = Rb at *
    (with_reducible refine Calls.mono (delete_c g c i m us N w2 hm (by rw [hm]; exact HA2.out.own)) ?_)
    rintro e w3 ⟨rfl, hO3, hG3⟩
    have hul : (us.take i ++ us.drop (i + 1)).length = L'.length := by rw [Hl'.out, List.length_append, List.length_take, List.length_drop]; omega
    obtain ⟨hA4, hK4, hB4, k0, f0⟩ := LkA.put HA2.out (L' := L') hO3 hG3 hul (fun j u x h1 h2 => by
      rw [HLe.out] at h2
      by_cases hj : j < i
      · rw [List.getElem?_append_left (by rw [List.length_take]; omega), List.getElem?_take_of_lt hj] at h1 h2
        exact HA2.out.each j u x h1 h2
      · rw [List.getElem?_append_right (by rw [List.length_take]; omega), List.length_take, List.getElem?_drop, show i + 1 + (j - min i us.length) = j + 1 by omega] at h1
        rw [List.getElem?_append_right (by rw [List.length_take]; omega), List.length_take, List.getElem?_drop, show i + 1 + (j - min i L.length) = j + 1 by omega] at h2
        exact HA2.out.each (j + 1) u x h1 h2) (by have := HA2.out.few; rw [Hl'.out]; omega)
    have Hul := hide hul
    have hN2 : N ≤ w2.heap.size := Nat.le_trans hN HB2.out.size
    have HRS : Hid (RS w N P Rb (.slice (some ⟨g, 0, none⟩) (i + m) c) (us.take i ++ us.drop (i + 1)) L' n0 aX mX cX T (w3.setCell ⟨P, 0, none⟩ (.slice (some ⟨g, 0, none⟩) (i + m) c))) := hide ⟨hA4, by
      rw [RowKit.Below.heap_setCell w3 _ _ Rb (by simp only; omega), hG3.block Rb (heap_lt HX2.out) (by intro e; injection e with e; omega)]
      exact HX2.out, HOx2.out.same fun g2 hg2 => by
      obtain ⟨_, cc, ff, hc⟩ := Li.OwnS.blk HOx2.out hg2
      have h5 := hK4 g2 _ hc (fun c f e => by injection e with _ e _; exact absurd e (by decide)) (fun c f e => by injection e with _ e _; exact absurd e (by decide))
      rw [h5, hc], (kp_below HB2.out).trans hK4, (HB2.out.mono hN).trans (hB4 hN2)⟩
    have HSz : Hid (w.heap.size ≤ (w3.setCell ⟨P, 0, none⟩ (.slice (some ⟨g, 0, none⟩) (i + m) c)).heap.size) := hide (Nat.le_trans HB2.out.size (Nat.le_trans hG3.size (by simp)))
    clear hul hO3 hG3 hA4 hK4 hB4 HX2 HOx2 HB2 HA2
    go_wp2_with fail
    clear k0 f0
    generalize w3.setCell ⟨P, 0, none⟩ (.slice (some ⟨g, 0, none⟩) (i + m) c) = w4 at *
    go_loopw [8, 9] (fun nv j wr => ∃ q : Nat, j = .int .i64 (q : Int) ∧ i ≤ q ∧ q ≤ i + m ∧ OwnN wr w.heap.size nv (nx L' T i (q - i)) ∧ RS w N P Rb (.slice (some ⟨g, 0, none⟩) (i + m) c) (us.take i ++ us.drop (i + 1)) L' n0 aX mX cX T wr ∧ w.heap.size ≤ wr.heap.size) (fun _ j _ => i + m - (intOf j).toNat)
    case atStart => exact ⟨i, rfl, Nat.le_refl _, by omega, by rw [Nat.sub_self]; exact OwnN.nil _ _, HRS.out, HSz.out⟩
    case round =>
      clear HRS HSz
      obtain ⟨q, rfl, hq1, hq2, hO, hR, hsz⟩ := hrel
      have HO := hide hO
      have HRr := hide hR
      have c0 := blk_cell (i := 0) hR.lk.obj rfl
      clear hR hO
      by_cases hlt : q < i + m
      · have d1 : decide ((q : Int) < (i : Int) + (m : Int)) = true := by simp; omega
        have hex3 : ∃ y, L'[q]? = some y := ⟨L'[q]'(by rw [Hl'.out]; omega), List.getElem?_eq_getElem (by rw [Hl'.out]; omega)⟩
        obtain ⟨⟨yw, Y⟩, hy⟩ := hex3
        have hexu : ∃ u, (us.take i ++ us.drop (i + 1))[q]? = some u := ⟨(us.take i ++ us.drop (i + 1))[q]'(by rw [Hul.out, Hl'.out]; omega), List.getElem?_eq_getElem (by rw [Hul.out, Hl'.out]; omega)⟩
        obtain ⟨⟨yw2, aY, mY, cY⟩, huy⟩ := hexu
        have hEach := HRr.out.lk.each q _ _ huy hy
        unfold pv at hEach
        simp only at hEach
        obtain ⟨rfl, hOy⟩ := hEach
        obtain ⟨a2, c2, hv2, hIs⟩ := HRr.out.lk.form
        injection hv2 with q1 q2 q3
        subst q1 q3
        obtain ⟨-, -, hc3, g', off', ha', hcell⟩ := hIs
        have ha2 := ha' (by rw [Hul.out, Hl'.out]; omega)
        injection ha2 with ha2
        injection ha2 with r1 r2 _
        subst r1 r2
        obtain ⟨y0, y1⟩ := hcell q _ huy
        unfold pv at y1
        simp only at y0 y1
        rw [Nat.zero_add] at y0 y1
        have HY := hide hy
        have HOy := hide hOy
        have HYc := hide (fun (u : World) (hu : Below wr.heap.size wr u) => (⟨keepC hu (Nat.le_refl _) y0, keepC hu (Nat.le_refl _) y1⟩ : _ ∧ _))
        have HPc := hide (fun (u : World) (hu : Below wr.heap.size wr u) => blk_cell (i := 0) (below_blk hu (heap_lt HRr.out.lk.obj) HRr.out.lk.obj) rfl)
        have HRc := hide (fun (u : World) (hu : Below wr.heap.size wr u) => (⟨blk_cell (i := 0) (below_blk hu (heap_lt HRr.out.rel) HRr.out.rel) rfl, blk_cell (i := 1) (below_blk hu (heap_lt HRr.out.rel) HRr.out.rel) rfl⟩ : _ ∧ _))
        obtain ⟨aYf, cYf, hvY, hYl, hYm, -, -⟩ := hOy.form
        injection hvY with s1 s2 s3
        subst s1 s3
        obtain ⟨aXf, cXf, hvX, hXl, hXm, -, -⟩ := HRr.out.txt.form
        injection hvX with s1 s2x s3
        subst s1 s3
        unfold maxLen at hYm hXm
        have HYf := hide (⟨s2.symm, hYl, hYm⟩ : _ ∧ _ ∧ _)
        have HXf := hide (⟨s2x.symm, hXl, hXm⟩ : _ ∧ _ ∧ _)
        have i5 : (0 : Int) ≤ (q : Int) := by omega
        have i6 : (q : Int) < (i : Int) + (m : Int) := by omega
        have mixed : Tryd.prog.follows Departure.mixedOrders = true := by kernel_rfl
        clear hOy hcell ha' huy hy y0 y1 s2 s2x q2 hYl hYm hXl hXm hc3
        obtain ⟨z, hz⟩ : ∃ z, z = way Y T := ⟨_, rfl⟩
        have HZ0 := hide hz
        clear hz
        cases z with
        | false =>
          have eg0 := egw
          go_wp2_with fail
          refine wp_region_g (FS wr (yw2, aY, mY, cY))
            [some (some (.pointer (some ⟨P, 0, none⟩))), some (some (.pointer (some ⟨P, 0, none⟩))), some (some (.pointer (some ⟨P, 0, none⟩))), some (some (.slice (some ⟨g, 0, none⟩) (i + m) c)), some (some (.int .i64 (q : Int))), some (some (.pointer (some ⟨g, q * 2, none⟩))),
             some (some (.agg #[.int .i64 yw2, .slice aY mY cY])), none, some (some (.agg #[.int .i64 n0, .slice aX mX cX])), some none, some none, some none, some none, some none, some none] mixed (by kernel_rfl) [7] [7, 9, 10, 11, 12, 13, 14] rfl rfl (by kernel_rfl) (Below.refl _ _).drew ?_
          iterate 7
            (refine gF_step (by rfl) (fun h u K hT hK => ?_) ?_
             · have cq := HPc.out u hT.base
               obtain ⟨y0, y1⟩ := HYc.out u hT.base
               go_simp
               with_reducible exact hK _ hT
             simp only [Act.put, List.setIfInBounds_toArray, List.set_cons_zero, List.set_cons_succ])
          refine gD_step (fun p => ∃ B, p = .func (.func 80) #[] #[.pointer (some ⟨B, 0, none⟩)]) ⟨_, 0, rfl⟩ (by rfl) (fun u K hT hK => ?_) (fun p hp => ?_)
          · have hT0 : Below wr.heap.size wr u := hT
            go_simp
            go_at_call 48
            (with_reducible refine Calls.mono (inTheWay_c yw2 aY mY cY u) ?_)
            rintro e u2 ⟨B, rfl, hB, hu⟩
            exact hK _ _ ⟨B, rfl⟩ ⟨keepB hu (Nat.le_refl _) hT0, B, rfl, hB⟩
          obtain ⟨B, rfl⟩ := hp
          simp only [Act.put, List.setIfInBounds_toArray, List.set_cons_zero, List.set_cons_succ]
          refine gF_step (by rfl) (fun h u K hT hK => ?_) ?_
          · obtain ⟨r0, r1⟩ := HRc.out u hT.base
            go_simp
            with_reducible exact hK _ hT
          simp only [Act.put, List.setIfInBounds_toArray, List.set_cons_zero, List.set_cons_succ]
          refine gG_step (v := .bool false) (by rfl) (fun h' u K hT hK => ?_) ?_
          · have hT1 : ∃ B', (Value.func (.func 80) #[] #[.pointer (some ⟨B, 0, none⟩)]) = .func (.func 80) #[] #[.pointer (some ⟨B', 0, none⟩)] ∧ u.heap[B']? = some (.cells #[.int .i64 yw2, .slice aY mY cY] 111 (0, 0)) := by
              match h', hT with
              | [], hT => exact hT.2
            obtain ⟨B', e, hB⟩ := hT1
            have e' : B = B' := by simpa using e
            subst e'
            have hwc := way_c n0 yw2 aX aY mX cX mY cY Y T B _ u hB ((HOy.out.src).below hT.base) HYf.out.1 (by have := HYf.out.1; have := HYf.out.2.1; omega) (by have := HYf.out.2.2; omega) ((HRr.out.txt.src).below hT.base) HXf.out.1 (by have := HXf.out.1; have := HXf.out.2.1; omega) (by have := HXf.out.2.2; omega)
            rw [← HZ0.out] at hwc
            clear hB e
            go_simp
            go_at_fn 80
            (with_reducible refine Calls.mono hwc ?_)
            rintro e u2 ⟨rfl, hu⟩
            exact hK _ (hT.up hu)
          simp only [Act.put, List.setIfInBounds_toArray, List.set_cons_zero, List.set_cons_succ]
          refine gG_step (v := .bool false) (by rfl) (fun h' u K hT hK => ?_) ?_
          · go_simp
            exact hK _ hT
          simp only [Act.put, List.setIfInBounds_toArray, List.set_cons_zero, List.set_cons_succ]
          iterate 3
            (refine gG_not (by rfl) ?_
             simp only [Act.put, List.setIfInBounds_toArray, List.set_cons_zero, List.set_cons_succ])
          refine gG_step (v := .bool false) (by rfl) (fun h' u K hT hK => ?_) ?_
          · go_simp
            exact hK _ hT
          simp only [Act.put, List.setIfInBounds_toArray, List.set_cons_zero, List.set_cons_succ]
          refine g_nil (fun w8 hT8 => ?_)
          have HR8 := hide (HRr.out.up (Nat.le_trans hN hsz) hT8.base)
          have HO8 := hide (HO.out.below hT8.base)
          have HS8 := hide (Nat.le_trans hsz hT8.base.size)
          have hnx : nx L' T i (q + 1 - i) = nx L' T i (q - i) := by
            rw [show q + 1 - i = (q - i) + 1 by omega, nx, show i + (q - i) = q by omega, HY.out]
            simp only
            rw [← HZ0.out]
            simp
          have HNx := hide hnx
          clear hT8 hnx HO HRr HPc HYc HRc HOy
          go_wp2
          go_roundw
          case rel => exact ⟨q + 1, by go_num, by omega, by omega, by rw [HNx.out]; exact HO8.out, HR8.out, HS8.out⟩
          case measure => simp [intOf]; omega
        | true =>
          have eg0 := egw
          go_wp2_with fail
          refine wp_region_g (FS wr (yw2, aY, mY, cY))
            [some (some (.pointer (some ⟨P, 0, none⟩))), some (some (.pointer (some ⟨P, 0, none⟩))), some (some (.pointer (some ⟨P, 0, none⟩))), some (some (.slice (some ⟨g, 0, none⟩) (i + m) c)), some (some (.int .i64 (q : Int))), some (some (.pointer (some ⟨g, q * 2, none⟩))),
             some (some (.agg #[.int .i64 yw2, .slice aY mY cY])), none, some (some (.agg #[.int .i64 n0, .slice aX mX cX])), some none, some none, some none, some none, some none, some none] mixed (by kernel_rfl) [7] [7, 9, 10, 11, 12, 13, 14] rfl rfl (by kernel_rfl) (Below.refl _ _).drew ?_
          iterate 7
            (refine gF_step (by rfl) (fun h u K hT hK => ?_) ?_
             · have cq := HPc.out u hT.base
               obtain ⟨y0, y1⟩ := HYc.out u hT.base
               go_simp
               with_reducible exact hK _ hT
             simp only [Act.put, List.setIfInBounds_toArray, List.set_cons_zero, List.set_cons_succ])
          refine gD_step (fun p => ∃ B, p = .func (.func 80) #[] #[.pointer (some ⟨B, 0, none⟩)]) ⟨_, 0, rfl⟩ (by rfl) (fun u K hT hK => ?_) (fun p hp => ?_)
          · have hT0 : Below wr.heap.size wr u := hT
            go_simp
            go_at_call 48
            (with_reducible refine Calls.mono (inTheWay_c yw2 aY mY cY u) ?_)
            rintro e u2 ⟨B, rfl, hB, hu⟩
            exact hK _ _ ⟨B, rfl⟩ ⟨keepB hu (Nat.le_refl _) hT0, B, rfl, hB⟩
          obtain ⟨B, rfl⟩ := hp
          simp only [Act.put, List.setIfInBounds_toArray, List.set_cons_zero, List.set_cons_succ]
          refine gF_step (by rfl) (fun h u K hT hK => ?_) ?_
          · obtain ⟨r0, r1⟩ := HRc.out u hT.base
            go_simp
            with_reducible exact hK _ hT
          simp only [Act.put, List.setIfInBounds_toArray, List.set_cons_zero, List.set_cons_succ]
          refine gG_step (v := .bool true) (by rfl) (fun h' u K hT hK => ?_) ?_
          · have hT1 : ∃ B', (Value.func (.func 80) #[] #[.pointer (some ⟨B, 0, none⟩)]) = .func (.func 80) #[] #[.pointer (some ⟨B', 0, none⟩)] ∧ u.heap[B']? = some (.cells #[.int .i64 yw2, .slice aY mY cY] 111 (0, 0)) := by
              match h', hT with
              | [], hT => exact hT.2
            obtain ⟨B', e, hB⟩ := hT1
            have e' : B = B' := by simpa using e
            subst e'
            have hwc := way_c n0 yw2 aX aY mX cX mY cY Y T B _ u hB ((HOy.out.src).below hT.base) HYf.out.1 (by have := HYf.out.1; have := HYf.out.2.1; omega) (by have := HYf.out.2.2; omega) ((HRr.out.txt.src).below hT.base) HXf.out.1 (by have := HXf.out.1; have := HXf.out.2.1; omega) (by have := HXf.out.2.2; omega)
            rw [← HZ0.out] at hwc
            clear hB e
            go_simp
            go_at_fn 80
            (with_reducible refine Calls.mono hwc ?_)
            rintro e u2 ⟨rfl, hu⟩
            exact hK _ (hT.up hu)
          simp only [Act.put, List.setIfInBounds_toArray, List.set_cons_zero, List.set_cons_succ]
          refine gG_step (v := .bool true) (by rfl) (fun h' u K hT hK => ?_) ?_
          · go_simp
            exact hK _ hT
          simp only [Act.put, List.setIfInBounds_toArray, List.set_cons_zero, List.set_cons_succ]
          iterate 2
            (refine gG_step (v := ?_) (by rfl) (fun h' u K hT hK => ?_) ?_
             rotate_left
             · go_simp
               exact hK _ hT
             simp only [Act.put, List.setIfInBounds_toArray, List.set_cons_zero, List.set_cons_succ])
          obtain ⟨fr, hfr⟩ : ∃ fr, fr = freeL L' q := ⟨_, rfl⟩
          have HFr := hide hfr
          clear hfr
          refine gG_step (v := .bool fr) (by rfl) (fun h' u K hT hK => ?_) ?_
          · have hLq := free_l (⟨_, _, HRr.out.lk.below hT.base⟩ : LkW u N P L') HY.out
            rw [← HFr.out] at hLq
            go_simp
            go_at_call 45
            (with_reducible refine Calls.mono hLq ?_)
            rintro e u2 ⟨rfl, hu⟩
            exact hK _ (hT.up hu)
          simp only [Act.put, List.setIfInBounds_toArray, List.set_cons_zero, List.set_cons_succ]
          refine gG_step (v := .bool fr) (by rfl) (fun h' u K hT hK => ?_) ?_
          · go_simp
            exact hK _ hT
          simp only [Act.put, List.setIfInBounds_toArray, List.set_cons_zero, List.set_cons_succ]
          refine g_nil (fun w8 hT8 => ?_)
          have HR8 := hide (HRr.out.up (Nat.le_trans hN hsz) hT8.base)
          have HO8 := hide (HO.out.below hT8.base)
          have HS8 := hide (Nat.le_trans hsz hT8.base.size)
          have HY8 := hide (HYc.out w8 hT8.base)
          have hnx : nx L' T i (q + 1 - i) = nx L' T i (q - i) ++ (if fr then [yw2] else []) := by
            rw [show q + 1 - i = (q - i) + 1 by omega, nx, show i + (q - i) = q by omega, HY.out]
            simp only
            rw [← HZ0.out, ← HFr.out]
            simp
          have HNx := hide hnx
          clear hT8 hnx HO HRr HPc HYc HRc HOy HFr
          cases fr with
          | false =>
            have HNy : Hid (nx L' T i (q + 1 - i) = nx L' T i (q - i)) := hide (by rw [HNx.out]; simp)
            go_wp2
            go_roundw
            case rel => exact ⟨q + 1, by go_num, by omega, by omega, by rw [HNy.out]; exact HO8.out, HR8.out, HS8.out⟩
            case measure => simp [intOf]; omega
          | true =>
            have HNy : Hid (nx L' T i (q + 1 - i) = nx L' T i (q - i) ++ [yw2]) := hide (by rw [HNx.out]; simp)
            have c8 := blk_cell (i := 0) HR8.out.lk.obj rfl
            obtain ⟨y0, y1⟩ := HY8.out
            have hb9 := below_new w8 (.cells #[.int .i64 yw2] 3)
            have HR9 := hide (HR8.out.up (Nat.le_trans hN HS8.out) hb9)
            have HO9 := hide (HO8.out.below hb9)
            have HX9 := hide (heap_last w8 (.cells #[.int .i64 yw2] 3))
            have HS9 := hide (Nat.le_trans HS8.out hb9.size)
            have hnl : (nx L' T i (q - i)).length ≤ 64 := Nat.le_trans (nx_len _ _ _ _) (by have := HR8.out.lk.few; rw [Hl'.out] at this; omega)
            clear hb9 HY8
            go_wp2_with (refine wpList_appN rfl (.tmp 58) (.tmp 67) rfl _ w.heap.size (nx L' T i (q - i)) w8.heap.size yw2 3 (0, 0) 1 rfl rfl HO9.out HS9.out HX9.out (by omega) ?_)
            intro v10 w10 HO10 HG10
            refine of_hid ?_
            have HR10 := hide (HR9.out.app HO9.out (Nat.le_refl _) hN (Nat.le_trans hN HS9.out) HG10.out)
            have HS10 := hide (Nat.le_trans HS9.out HG10.out.size)
            clear HR9 HO9 HX9 HG10 HR8 HO8 c8 y0 y1
            go_wp2
            go_roundw
            case rel => exact ⟨q + 1, by go_num, by omega, by omega, by rw [HNy.out]; exact HO10.out, HR10.out, HS10.out⟩
            case measure => simp [intOf]; omega
      · obtain rfl : q = i + m := by omega
        have d1 : decide (((i + m : Nat) : Int) < (i : Int) + (m : Int)) = false := by simp
        have d1' : decide ((i : Int) + (m : Int) < (i : Int) + (m : Int)) = false := by simp
        rw [Nat.add_sub_cancel_left] at HO
        obtain ⟨av, cv, gv, hnv, -, -, -, -⟩ := HO.out.form
        have HZ := hide (HR.out wr _ HO.out ⟨_, _, HRr.out.lk⟩ HRr.out.kp HRr.out.below)
        subst hnv
        go_wp2
        exact HZ.out
end Go.Proofs.YtlhjkacdhfchiaaDoor.Lm
