/- LockAlone's walk. -/
import Derived.Test.YtlhjkacdhfchiaaDoorLv
import Derived.Deep.CutBlock
import Derived.Deep.DeepCutAuto
namespace Go.Proofs.YtlhjkacdhfchiaaDoor.LockAloneW
set_option linter.unusedVariables false
set_option linter.unusedSimpArgs false
set_option maxRecDepth 100000
open Go.ChangeShapes Go.WideShapes Go.ChangeAt Go.RowKit
open Go.Proofs.YtlhjkacdhfchiaaDoor.Wu Go.Proofs.YtlhjkacdhfchiaaDoor.Ps Go.Proofs.YtlhjkacdhfchiaaDoor.Pd Go.Proofs.YtlhjkacdhfchiaaDoor.Px Go.Proofs.YtlhjkacdhfchiaaDoor.Lb Go.Proofs.YtlhjkacdhfchiaaDoor.Lg Go.Proofs.YtlhjkacdhfchiaaDoor.Lh Go.Proofs.YtlhjkacdhfchiaaDoor.Li Go.Proofs.YtlhjkacdhfchiaaDoor.Lk Go.Proofs.YtlhjkacdhfchiaaDoor.Lm Go.Proofs.YtlhjkacdhfchiaaDoor.Lr Go.Proofs.YtlhjkacdhfchiaaDoor.Lt Go.Proofs.YtlhjkacdhfchiaaDoor.Km Go.Proofs.YtlhjkacdhfchiaaDoor.Lu Go.Proofs.YtlhjkacdhfchiaaDoor.Lv
open Go.Proofs.YtlhjkacdhfchiaaDoor.Ba (of_hid)
set_option maxHeartbeats 6400000 in
theorem walk (a : Option Addr) (m c : Nat) (l : List OpL) (w : World) (hl : l.length = m) (hmc : m ≤ 9223372036854775807) (g off : Nat) (ha : 0 < m → a = some ⟨g, off, none⟩)
    (hcell : ∀ i o, l[i]? = some o → (∀ j u, (opC o)[j]? = some u → w.cell? ⟨g, off + i * 3 + j, none⟩ = some u) ∧ OkL w o) :
    Calls Tryd.prog 5 #[.slice a m c] w fun e w' => e = .returned (.bool true) ∧ Below w.heap.size w w' := by
  have HH := hide (locks_c w)
  have HF := hide (fun (u : World) (hu : Below w.heap.size w u) => fits_c a m c l u hl hmc g off ha (fun i o hi => ⟨fun j x hx => keepC hu (Nat.le_refl _) ((hcell i o hi).1 j x hx), (hcell i o hi).2.below hu⟩))
  have HC := hide hcell
  have Hl := hide hl
  clear hcell hl
  go_enter Tryd.func5, Tryd.ntmps5
  go_wp2_with fail
  refine HH.out.mono ?_
  rintro e w1 ⟨rfl, hb⟩
  have HB := hide hb
  clear hb HH
  go_wp2_with fail
  refine (HF.out w1 HB.out).mono ?_
  rintro e w2 ⟨b, rfl, hfit, hb⟩
  have HB2 := hide (keepB hb (Nat.le_refl _) HB.out)
  clear hb HF HB
  cases b with
  | false =>
    go_wp2
    go_ret
    exact ⟨rfl, HB2.out⟩
  | true =>
    obtain ⟨h90, hsm⟩ := hfit rfl
    have HSm := hide hsm
    clear hfit hsm
    have HN := hide (new_w (Below.refl w2.heap.size w2))
    go_wp2_with fail
    refine HN.out.mono ?_
    rintro e w3 ⟨rfl, h3⟩
    have H3 := hide h3
    clear h3 HN
    have hmm := @run_makeMap Tryd.prog
    go_wp2_with fail
    clear hmm
    have hsz3 := H3.out.below.size
    have H4 : Hid (AS w w2 w2.heap.size w3.heap.size w2.heap.size [] (.slice none 0 0) (w3.alloc (.map #[] 0))) := hide ⟨H3.out.up (below_new w3 _), MapL.made w3, OwnN.nil _ _, (fun g hg => by cases hg), hsz3, Nat.le_refl _⟩
    generalize w3.alloc (.map #[] 0) = w4 at *
    generalize w3.heap.size = Mb at *
    clear H3
    go_loopw [5, 28] (fun v j wr => ∃ (i : Nat) (G : List En), j = .int .i64 (i : Int) ∧ i ≤ m ∧ G.length ≤ i ∧ AS w w2 w2.heap.size Mb w2.heap.size G v wr) (fun _ j _ => m - (intOf j).toNat)
    case atStart => exact ⟨0, [], rfl, Nat.zero_le _, Nat.le_refl _, H4.out⟩
    case round =>
      clear H4
      obtain ⟨i, G, rfl, hi, hGi, hS⟩ := hrel
      obtain ⟨av, cv, gv, rfl, hfit0, hmax0, -, -⟩ := hS.ord.form
      have HS := hide hS
      clear hS
      by_cases hlt : i < m
      · have d1 : decide ((i : Int) < (m : Int)) = true := by simpa using hlt
        have i1 : (0 : Int) ≤ (i : Int) := by omega
        have i2 : (i : Int) < (m : Int) := by omega
        have hex : ∃ o, l[i]? = some o := ⟨l[i]'(by rw [Hl.out]; exact hlt), List.getElem?_eq_getElem (by rw [Hl.out]; exact hlt)⟩
        obtain ⟨o, hio⟩ := hex
        have hmem := List.mem_of_getElem? hio
        have hsmall := HSm.out o hmem
        obtain ⟨hoc, hok⟩ := HC.out i _ hio
        obtain rfl := ha (by omega)
        have hbw := HB2.out.trans (HS.out.lw.below.mono HB2.out.size)
        have o0 := keepC hbw (Nat.le_refl _) (hoc 0 _ rfl)
        have o1 := keepC hbw (Nat.le_refl _) (hoc 1 _ rfl)
        have o2 := keepC hbw (Nat.le_refl _) (hoc 2 _ rfl)
        rw [Nat.add_zero] at o0
        have HOk := hide hok
        have Hsmall := hide hsmall
        clear hoc hok hio hmem hsmall hbw
        obtain ⟨kd, who, oa, om, oc, T⟩ := o
        simp only at o0 o1 o2
        go_upto_if 34 with (fail)
        have HS5 := hide (HS.out.up (below_new wr (.cells #[.int .i64 kd, .int .i64 who, .slice oa om oc] 54)))
        have HO5 := hide (heap_last wr (.cells #[.int .i64 kd, .int .i64 who, .slice oa om oc] 54))
        generalize wr.alloc (.cells #[.int .i64 kd, .int .i64 who, .slice oa om oc] 54) = w5 at *
        generalize wr.heap.size = Bo at *
        clear HS o0 o1 o2
        go_cut [5] (fun v wx => ∃ G', G'.length ≤ i + 1 ∧ AS w w2 w2.heap.size Mb w2.heap.size G' v wx)
        case first =>
          cases hk0 : (kd == 0) with
          | true =>
            cases hr : askF (Ls G) who T with
            | inl t =>
              obtain ⟨L', b⟩ := t
              obtain ⟨hf, S, hS, rfl⟩ := askF_inl hr
              have HAk := hide (fun (u : World) (hu : Lw w2 w2.heap.size w2.heap.size (Ls G) u) (hs : SrcS u oa T) => ask_k hu who oa om oc T hs HOk.out.len HOk.out.cap HOk.out.max HOk.out.txt hr)
              have HMiss := hide (miss_at hf)
              have HMem := hide (fun p => set_mem hS p)
              have HSrc := hide (HOk.out.src)
              clear hr hf hS
              have q0 := blk_cell (i := 0) HO5.out rfl
              have q1 := blk_cell (i := 1) HO5.out rfl
              have q2 := blk_cell (i := 2) HO5.out rfl
              go_wp2_with fail
              clear q0 q1 q2
              refine (HAk.out w5 HS5.out.lw (HSrc.out.below (HB2.out.trans (HS5.out.lw.below.mono HB2.out.size)))).mono ?_
              rintro e w6 ⟨rfl, h6, hk6⟩
              obtain ⟨hm6, ho6⟩ := HS5.out.kp hk6
              have H6 := hide h6
              have HM6 := hide hm6
              have HO6 := hide ho6
              have HP6 := hide (hk6 Bo _ HO5.out (fun c f e => by injection e with _ e _; exact absurd e (by decide)) (fun c f e => by injection e with _ e _; exact absurd e (by decide)))
              have HTx := hide HS5.out.txt
              have HLo := hide (⟨HS5.out.mlow, HS5.out.blow⟩ : _ ∧ _)
              clear h6 hm6 ho6 hk6 HS5 HO5 HAk
              have q0 := blk_cell (i := 0) HP6.out rfl
              have q1 := blk_cell (i := 1) HP6.out rfl
              have q2 := blk_cell (i := 2) HP6.out rfl
              have hroom : (G.map enV).length < maxLen := by rw [List.length_map]; unfold maxLen; omega
              go_wp2_with (refine wpList_put rfl (.tmp 46) (.tmp 48) (.tmp 50) 68 rfl 3 52 law_int Tryd.underlying68 Mb (G.map enV) rfl HM6.out hroom (.int .i64 who) (.slice oa om oc) (.int .i64 who) rfl rfl (key_int HOk.out.wf) ?_)
              intro l' w7 HM7 HPu HG7
              refine of_hid ?_
              obtain ⟨gE, hgE⟩ : ∃ gE : En, gE = ⟨(who, S), oa, om, oc, T⟩ := ⟨_, rfl⟩
              have hl' : l' = (G ++ [gE]).map enV := by
                subst hgE
                exact put_end HPu.out HMiss.out
              have hLs : Ls G ++ [(who, S)] = Ls (G ++ [gE]) := by subst hgE; simp [Ls]
              have hWs : Ws G ++ [who] = Ws (G ++ [gE]) := by subst hgE; simp [Ws]
              have hTx : ∀ g ∈ G ++ [gE], OkE w g := fun x hx => by
                rcases List.mem_append.1 hx with hx | hx
                · exact HTx.out x hx
                · rw [List.mem_singleton.1 hx, hgE]
                  exact ⟨HOk.out.src, HOk.out.len, HOk.out.cap, HOk.out.max, HMem.out, HOk.out.wf⟩
              have hmn := map_ne HM6.out
              have H7 : Hid (Lw w2 w2.heap.size w2.heap.size (Ls (G ++ [gE])) w7) := hide (by
                rw [← hLs]
                exact Lw.keep H6.out HG7.out (fun k c T f hc _ => hmn k c T f hc) (fun k hk => by injection hk with hk; rw [← hk]; exact HLo.out.1))
              have HM7' : Hid (MapL Tryd.prog 3 w7 Mb ((G ++ [gE]).map enV)) := hide (by rw [← hl']; exact HM7.out)
              have HO7 := hide (HO6.out.same fun g2 hg2 => by
                obtain ⟨_, c, f, hc⟩ := HO6.out.blk hg2
                exact HG7.out.block g2 (heap_lt hc) (hmn g2 c _ f hc))
              have HP7 := hide ((HG7.out.block Bo (heap_lt HP6.out) (hmn Bo _ _ _ HP6.out)).trans HP6.out)
              have HTx2 := hide hTx
              have HWs := hide hWs
              have hlG : (G ++ [gE]).length = G.length + 1 := by simp
              clear hgE hl' hLs hWs hTx hmn HM7 HPu HG7 H6 HM6 HO6 HP6 HTx HMiss HMem q0 q1 q2 hroom
              have q1 := blk_cell (i := 1) HP7.out rfl
              have hb8 := below_new w7 (.cells #[.int .i64 who] 3)
              have H8 := hide (H7.out.up hb8)
              have HM8 := hide (HM7'.out.same (hb8.block Mb HM7'.out.lt))
              have HO8 := hide (HO7.out.below hb8)
              have HX8 := hide (heap_last w7 (.cells #[.int .i64 who] 3))
              have hwl : (Ws G).length ≤ 1000000 := by unfold Ws; rw [List.length_map]; omega
              clear hb8 H7 HM7' HO7
              go_wp2_with (refine wpList_appN rfl (.tmp 51) (.tmp 54) rfl _ w2.heap.size (Ws G) w7.heap.size who 3 (0, 0) 1 rfl rfl HO8.out H8.out.below.size HX8.out hwl ?_)
              intro v9 w9 HO9 HG9
              refine of_hid ?_
              have HS9 : Hid (AS w w2 w2.heap.size Mb w2.heap.size (G ++ [gE]) v9 w9) := hide ⟨Lw.keep H8.out HG9.out (own_ne HO8.out) (fun k hk => (HO8.out.blk hk).1), HM8.out.same (HG9.out.block Mb HM8.out.lt (map_own HM8.out HO8.out)), by rw [← HWs.out]; exact HO9.out, HTx2.out, HLo.out.1, HLo.out.2⟩
              clear H8 HM8 HO8 HX8 HO9 HG9 HP7 q1
              go_wp2_with fail
              go_meet
              exact ⟨G ++ [gE], by omega, HS9.out⟩
            | inr cE =>
              have HAk := hide (fun (u : World) (hu : Lw w2 w2.heap.size w2.heap.size (Ls G) u) (hs : SrcS u oa T) => ask_c hu.lk who oa oc T hs (by rw [HOk.out.len]; exact HOk.out.cap) HOk.out.max HOk.out.txt hu.size)
              rw [hr] at HAk
              have HSrc := hide (HOk.out.src)
              have hTl : T.length = om := HOk.out.len
              rw [hTl] at HAk
              clear hr hTl
              have q0 := blk_cell (i := 0) HO5.out rfl
              have q1 := blk_cell (i := 1) HO5.out rfl
              have q2 := blk_cell (i := 2) HO5.out rfl
              go_wp2_with fail
              clear q0 q1 q2
              refine (HAk.out w5 HS5.out.lw (HSrc.out.below (HB2.out.trans (HS5.out.lw.below.mono HB2.out.size)))).mono ?_
              rintro e w6 ⟨v, rfl, hv, hb⟩
              obtain ⟨Ty, x, rfl⟩ := errv_shape hv
              have HS6 := hide (HS5.out.up hb)
              clear hb hv HS5 HO5 HAk
              go_wp2_with fail
              go_meet
              exact ⟨G, by omega, HS6.out⟩
          | false =>
            cases hf : (Ls G).findIdx? (whoIs who) with
            | none =>
              have HRl := hide (fun (u : World) (hu : Lw w2 w2.heap.size w2.heap.size (Ls G) u) => rel_no hu who hf)
              clear hf
              have q0 := blk_cell (i := 0) HO5.out rfl
              have q1 := blk_cell (i := 1) HO5.out rfl
              go_wp2_with fail
              clear q0 q1
              refine (HRl.out w5 HS5.out.lw).mono ?_
              rintro e w6 ⟨rfl, hb⟩
              have HS6 := hide (HS5.out.up hb)
              clear hb HS5 HO5 HRl
              go_wp2_with fail
              go_meet
              exact ⟨G, by omega, HS6.out⟩
            | some i0 =>
              obtain ⟨hi0, hwi, -⟩ := List.findIdx?_eq_some_iff_getElem.1 hf
              have hex0 : ∃ x, (Ls G)[i0]? = some x := ⟨(Ls G)[i0], List.getElem?_eq_getElem hi0⟩
              obtain ⟨x0, hx0⟩ := hex0
              have hx0w : x0.1 = who := by
                have e := (List.getElem?_eq_some_iff.1 hx0).2
                rw [e] at hwi
                simpa [whoIs] using hwi
              have HRl := hide (fun (u : World) (hu : Lw w2 w2.heap.size w2.heap.size (Ls G) u) => rel_k hu who hf hx0)
              have hcr := cut_rest HS5.out.once hx0 hx0w
              rw [hcr] at HRl
              have hrl : (rest G who).length ≤ G.length := List.length_filter_le _ _
              clear hf hi0 hwi hx0 hx0w hcr
              have q0 := blk_cell (i := 0) HO5.out rfl
              have q1 := blk_cell (i := 1) HO5.out rfl
              go_wp2_with fail
              clear q0 q1
              refine (HRl.out w5 HS5.out.lw).mono ?_
              rintro e w6 ⟨vR, rfl, hoR, h6, hk6⟩
              obtain ⟨aR, cR, gR, rfl, -, -, -, -⟩ := hoR.form
              obtain ⟨hm6, ho6⟩ := HS5.out.kp hk6
              have H6 := hide h6
              have HM6 := hide hm6
              have HO6 := hide ho6
              have HP6 := hide (hk6 Bo _ HO5.out (fun c f e => by injection e with _ e _; exact absurd e (by decide)) (fun c f e => by injection e with _ e _; exact absurd e (by decide)))
              have HTx := hide HS5.out.txt
              have HLo := hide (⟨HS5.out.mlow, HS5.out.blow⟩ : _ ∧ _)
              have HOn := hide HS5.out.once
              clear h6 hm6 ho6 hk6 HS5 HO5 HRl hoR
              have q1 := blk_cell (i := 1) HP6.out rfl
              go_wp2_with (refine wpList_drop rfl (.tmp 65) (.tmp 67) 68 3 rfl 52 law_int Tryd.underlying68 Mb (G.map enV) rfl HM6.out (.int .i64 who) (.int .i64 who) rfl (key_int HOk.out.wf) ?_)
              intro l' w7 HM7 HD HG7
              refine of_hid ?_
              have hl' := del_rest HOn.out HD.out
              have hmn := map_ne HM6.out
              have HA7 : Hid (A2 w w2 w2.heap.size Mb Bo w7.heap.size G (rest G who) (.slice av (Ws G).length cv) ⟨kd, who, oa, om, oc, T⟩ w7) := hide ⟨Lw.keep H6.out HG7.out (fun k c T f hc _ => hmn k c T f hc) (fun k hk => by injection hk with hk; rw [← hk]; exact HLo.out.1),
                by rw [← hl']; exact HM7.out, HO6.out.same (fun g2 hg2 => by
                obtain ⟨_, c, f, hc⟩ := HO6.out.blk hg2
                exact HG7.out.block g2 (heap_lt hc) (hmn g2 c _ f hc)), (HG7.out.block Bo (heap_lt HP6.out) (hmn Bo _ _ _ HP6.out)).trans HP6.out, Nat.le_refl _⟩
              have HVb := hide (fun g2 (h : (Value.slice av (Ws G).length cv).ownBlock = some g2) => (World.ownsRow.lt HA7.out.ord g2 h).2)
              have HTx2 : Hid (∀ g ∈ rest G who, OkE w g) := hide (fun g hg => HTx.out g (List.mem_filter.1 hg).1)
              have hs7 : w2.heap.size ≤ w7.heap.size := HA7.out.lw.below.size
              clear hl' hmn HM7 HD HG7 H6 HM6 HO6 HP6 HTx HOn q1
              have q1 := blk_cell (i := 1) HA7.out.op rfl
              go_wp2_with fail
              clear q1
              go_loopw [12, 70] (fun lv j wq => ∃ k : Nat, j = .int .i64 (k : Int) ∧ k ≤ (Ws G).length ∧ OwnN wq w7.heap.size lv (((Ws G).take k).filter (keepZ who)) ∧ A2 w w2 w2.heap.size Mb Bo w7.heap.size G (rest G who) (.slice av (Ws G).length cv) ⟨kd, who, oa, om, oc, T⟩ wq) (fun _ j _ => (Ws G).length - (intOf j).toNat)
              case atStart => exact ⟨0, rfl, Nat.zero_le _, by rw [List.take_zero]; exact OwnN.nil _ _, HA7.out⟩
              case round =>
                clear HA7
                obtain ⟨k, rfl, hk, hO, hA⟩ := hrel
                have HOl := hide hO
                have HAq := hide hA
                clear hO hA
                by_cases hlk : k < (Ws G).length
                · have d2 : decide ((k : Int) < ((Ws G).length : Int)) = true := by simpa using hlk
                  have i3 : (0 : Int) ≤ (k : Int) := by omega
                  have i4 : (k : Int) < ((Ws G).length : Int) := by omega
                  have hexz : ∃ z, (Ws G)[k]? = some z := ⟨(Ws G)[k], List.getElem?_eq_getElem hlk⟩
                  obtain ⟨z, hz⟩ := hexz
                  obtain ⟨av2, cv2, gv2, hv2, -, -, hav2, hcv2⟩ := HAq.out.ord.form
                  injection hv2 with z1 z2 z3
                  subst z1 z3
                  obtain rfl := hav2 (by omega)
                  have cz := hcv2 k z hz
                  have hkt := keep_take hz who
                  have HKt := hide hkt
                  have q1 := blk_cell (i := 1) HAq.out.op rfl
                  clear hcv2 hav2 hz hkt
                  simp only at q1
                  cases hzw : (z == who) with
                  | true =>
                    have hkz : keepZ who z = false := by unfold keepZ; rw [hzw]; rfl
                    rw [hkz] at HKt
                    have HKt2 : Hid (((Ws G).take (k + 1)).filter (keepZ who) = ((Ws G).take k).filter (keepZ who)) := hide (by rw [HKt.out]; simp)
                    have hne : (z != who) = false := by simpa using hzw
                    clear hkz HKt
                    go_wp2
                    go_roundw
                    case rel => exact ⟨k + 1, by go_num, by omega, by rw [HKt2.out]; exact HOl.out, HAq.out⟩
                    case measure => simp [intOf]; omega
                  | false =>
                    have hkz : keepZ who z = true := by unfold keepZ; rw [hzw]; rfl
                    rw [hkz] at HKt
                    have HKt2 : Hid (((Ws G).take (k + 1)).filter (keepZ who) = ((Ws G).take k).filter (keepZ who) ++ [z]) := hide (by rw [HKt.out]; simp)
                    have hne : (z != who) = true := by simpa using hzw
                    have hwl : (((Ws G).take k).filter (keepZ who)).length ≤ 1000000 := Nat.le_trans (List.length_filter_le _ _) (by rw [List.length_take]; unfold Ws; rw [List.length_map]; omega)
                    have hb8 := below_new wr (.cells #[.int .i64 z] 3)
                    have HA8 := hide (HAq.out.up hb8)
                    have HO8 := hide (HOl.out.below hb8)
                    have HX8 := hide (heap_last wr (.cells #[.int .i64 z] 3))
                    clear hkz HKt hb8
                    go_wp2_with (refine wpList_appN rfl (.tmp 78) (.tmp 80) rfl _ w7.heap.size (((Ws G).take k).filter (keepZ who)) wr.heap.size z 3 (0, 0) 1 rfl rfl HO8.out HA8.out.size HX8.out hwl ?_)
                    intro v9 w9 HO9 HG9
                    refine of_hid ?_
                    have HA9 := hide (HA8.out.app HO8.out hs7 (Nat.le_refl _) HVb.out HG9.out)
                    clear HA8 HO8 HX8 HG9 HAq HOl cz q1
                    go_wp2
                    go_roundw
                    case rel => exact ⟨k + 1, by go_num, by omega, by rw [HKt2.out]; exact HO9.out, HA9.out⟩
                    case measure => simp [intOf]; omega
                · obtain rfl : k = (Ws G).length := by omega
                  have d2 : decide (((Ws G).length : Int) < ((Ws G).length : Int)) = false := by simp
                  have HSz : Hid (AS w w2 w2.heap.size Mb w2.heap.size (rest G who) _ wr) := hide ⟨HAq.out.lw, HAq.out.mp, by
                    have := OwnN.less HOl.out hs7
                    rw [List.take_length, ws_rest] at this
                    exact this, HTx2.out, HLo.out.1, HLo.out.2⟩
                  go_wp2_with fail
                  go_meet
                  exact ⟨rest G who, by omega, HSz.out⟩
        case rest =>
          clear HS5 HO5
          obtain ⟨G', hG', hS'⟩ := hcut
          obtain ⟨aw, cw, gw, rfl, hfw, hmw, -, -⟩ := hS'.ord.form
          have HS6 := hide hS'
          clear hS'
          by_cases hz : 0 < (Ws G').length
          · have d4 : decide ((0 : Int) < ((Ws G').length : Int)) = true := decide_eq_true (by omega)
            have hex0 : ∃ g0, G'[0]? = some g0 := ⟨G'[0]'(by unfold Ws at hz; rw [List.length_map] at hz; exact hz), List.getElem?_eq_getElem _⟩
            obtain ⟨g0, hg0⟩ := hex0
            have hz0 : (Ws G')[0]? = some g0.x.1 := by unfold Ws; rw [List.getElem?_map, hg0]; rfl
            have hl0 : (Ls G')[0]? = some g0.x := by unfold Ls; rw [List.getElem?_map, hg0]; rfl
            obtain ⟨av2, cv2, gv2, hv2, -, -, hav2, hcv2⟩ := HS6.out.ord.form
            injection hv2 with z1 z2 z3
            subst z1 z3
            obtain rfl := hav2 hz
            have cz := hcv2 0 _ hz0
            have hh := has_c HS6.out.lw.lk g0.x.1
            rw [has_at HS6.out.once hl0, free_zero hl0] at hh
            have HHs := hide hh
            have j0 : (0 : Int) < ((Ws G').length : Int) := by omega
            clear hcv2 hav2 hz0 hg0 hl0 hh
            go_wp2_with fail
            clear cz
            refine HHs.out.mono ?_
            rintro e w7 ⟨rfl, hb⟩
            have HS7 := hide (HS6.out.up hb)
            clear hb HS6 HHs d4 j0
            obtain ⟨aw, haw⟩ : ∃ aw : Option Addr, aw = some ⟨gv2, 0, none⟩ := ⟨_, rfl⟩
            rw [← haw] at HS7 ⊢
            clear haw
            go_wp2_with fail
            go_loopw [97] (fun j wq => ∃ k : Nat, j = .int .i64 (k : Int) ∧ k ≤ (Ws G').length ∧ AS w w2 w2.heap.size Mb w2.heap.size G' (.slice aw (Ws G').length cw) wq) (fun j _ => (Ws G').length - (intOf j).toNat)
            case atStart => exact ⟨0, rfl, Nat.zero_le _, HS7.out⟩
            case round =>
              clear HS7
              obtain ⟨k, rfl, hk, hS⟩ := hrel
              have HS8 := hide hS
              clear hS
              by_cases hlk : k < (Ws G').length
              · have d2 : decide ((k : Int) < ((Ws G').length : Int)) = true := by simpa using hlk
                have i3 : (0 : Int) ≤ (k : Int) := by omega
                have i4 : (k : Int) < ((Ws G').length : Int) := by omega
                have i5 : (k : Int) ≤ (cw : Int) := by omega
                have hexk : ∃ gk, G'[k]? = some gk := ⟨G'[k]'(by unfold Ws at hlk; rw [List.length_map] at hlk; exact hlk), List.getElem?_eq_getElem _⟩
                obtain ⟨gk, hgk⟩ := hexk
                have hzk : (Ws G')[k]? = some gk.x.1 := by unfold Ws; rw [List.getElem?_map, hgk]; rfl
                have hlk2 : (Ls G')[k]? = some gk.x := by unfold Ls; rw [List.getElem?_map, hgk]; rfl
                obtain ⟨av2, cv2, gv2, hv2, -, -, hav2, hcv2⟩ := HS8.out.ord.form
                injection hv2 with z1 z2 z3
                subst z1 z3
                obtain rfl := hav2 (by omega)
                have cz := hcv2 k _ hzk
                have HGk := hide hgk
                have HLk := hide hlk2
                clear hcv2 hav2 hzk hgk hlk2
                go_wp2_with fail
                clear cz d2 i4
                go_loopw [106] (fun j wq => ∃ q : Nat, j = .int .i64 (q : Int) ∧ q ≤ k ∧ AS w w2 w2.heap.size Mb w2.heap.size G' (.slice (some ⟨gv2, 0, none⟩) (Ws G').length cw) wq) (fun j _ => k - (intOf j).toNat)
                case atStart => exact ⟨0, rfl, Nat.zero_le _, HS8.out⟩
                case round =>
                  clear HS8
                  obtain ⟨q, rfl, hq, hS⟩ := hrel
                  have HS9 := hide hS
                  clear hS
                  by_cases hlq : q < k
                  · have d3 : decide ((q : Int) < (k : Int)) = true := by simpa using hlq
                    have j1 : (0 : Int) ≤ (q : Int) := by omega
                    have j2 : (q : Int) < (k : Int) := by omega
                    have hexq : ∃ gq, G'[q]? = some gq := ⟨G'[q]'(by unfold Ws at hlk; rw [List.length_map] at hlk; omega), List.getElem?_eq_getElem _⟩
                    obtain ⟨gq, hgq⟩ := hexq
                    have hzq : (Ws G')[q]? = some gq.x.1 := by unfold Ws; rw [List.getElem?_map, hgq]; rfl
                    have hlq2 : (Ls G')[q]? = some gq.x := by unfold Ls; rw [List.getElem?_map, hgq]; rfl
                    obtain ⟨av3, cv3, gv3, hv3, -, -, hav3, hcv3⟩ := HS9.out.ord.form
                    injection hv3 with y1 y2 y3
                    subst y3
                    have y4 := hav3 (by omega)
                    rw [y4] at y1
                    injection y1 with y1
                    injection y1 with y1
                    subst y1
                    have cz := hcv3 q _ hzq
                    have HGq := hide hgq
                    have HLq := hide hlq2
                    have hh1 := has_c HS9.out.lw.lk gk.x.1
                    rw [has_at HS9.out.once HLk.out] at hh1
                    have HH1 := hide hh1
                    have HH2 := hide (fun (u : World) (hu : AS w w2 w2.heap.size Mb w2.heap.size G' (.slice (some ⟨gv2, 0, none⟩) (Ws G').length cw) u) => by
                      have h2 := has_c hu.lw.lk gq.x.1
                      rw [has_at hu.once HLq.out] at h2
                      exact h2)
                    have HWay := hide (fun hf => way_no HS9.out.txt HGk.out HGq.out hlq hf)
                    have hOk1 := HS9.out.txt gk (List.mem_of_getElem? HGk.out)
                    have hOk2 := HS9.out.txt gq (List.mem_of_getElem? HGq.out)
                    have HOk1 := hide hOk1
                    have HOk2 := hide hOk2
                    obtain ⟨fk, hfk⟩ : ∃ fk, fk = freeL (Ls G') k := ⟨_, rfl⟩
                    obtain ⟨fq, hfq⟩ : ∃ fq, fq = freeL (Ls G') q := ⟨_, rfl⟩
                    rw [← hfk] at HH1 HWay
                    rw [← hfq] at HH2
                    clear hcv3 hav3 hzq hgq hlq2 hh1 y2 y4 hfk hfq hOk1 hOk2
                    obtain ⟨k1, hk1⟩ : ∃ k1, k1 = gk.x.1 := ⟨_, rfl⟩
                    obtain ⟨q1, hq1⟩ : ∃ q1, q1 = gq.x.1 := ⟨_, rfl⟩
                    have Hk1 := hide hk1
                    have Hq1 := hide hq1
                    rw [← hk1] at HH1 ⊢
                    rw [← hq1] at HH2 cz
                    clear hk1 hq1
                    go_wp2_with fail
                    clear cz
                    refine HH1.out.mono ?_
                    rintro e w10 ⟨rfl, hb⟩
                    have HS10 := hide (HS9.out.up hb)
                    clear hb HS9 HH1
                    cases fk with
                    | false =>
                      go_wp2
                      go_roundw
                      case rel => exact ⟨q + 1, by go_num, by omega, HS10.out⟩
                      case measure => simp [intOf]; omega
                    | true =>
                      have HWy := hide (HWay.out rfl)
                      go_wp2_with fail
                      refine (HH2.out w10 HS10.out).mono ?_
                      rintro e w11 ⟨rfl, hb⟩
                      have HS11 := hide (HS10.out.up hb)
                      clear hb HS10 HH2 HWay
                      cases fq with
                      | false =>
                        go_wp2
                        go_roundw
                        case rel => exact ⟨q + 1, by go_num, by omega, HS11.out⟩
                        case measure => simp [intOf]; omega
                      | true =>
                        have hr1 := HS11.out.look (List.mem_of_getElem? HGk.out)
                        have hr2 := HS11.out.look (List.mem_of_getElem? HGq.out)
                        rw [← Hk1.out] at hr1
                        rw [← Hq1.out] at hr2
                        have hbw := HB2.out.trans (HS11.out.lw.below.mono HB2.out.size)
                        have hcm := common_c gk.a gq.a gk.m gk.c gq.m gq.c gk.T gq.T w11 (HOk1.out.src.below hbw) HOk1.out.len HOk1.out.cap HOk1.out.max (HOk2.out.src.below hbw) HOk2.out.len HOk2.out.cap HOk2.out.max
                        rw [HWy.out] at hcm
                        have HCm := hide hcm
                        clear hbw hcm
                        go_wp2_with fail
                        refine HCm.out.mono ?_
                        rintro e w12 ⟨rfl, rfl⟩
                        clear HCm hr1 hr2
                        go_wp2
                        go_roundw
                        case rel => exact ⟨q + 1, by go_num, by omega, HS11.out⟩
                        case measure => simp [intOf]; omega
                  · obtain rfl : q = k := by omega
                    have d3 : decide ((q : Int) < (q : Int)) = false := by simp
                    go_wp2
                    go_roundw
                    case rel => exact ⟨q + 1, by go_num, by omega, HS9.out⟩
                    case measure => simp [intOf]; omega
              · obtain rfl : k = (Ws G').length := by omega
                have d2 : decide (((Ws G').length : Int) < ((Ws G').length : Int)) = false := by simp
                go_wp2
                go_roundw
                case rel => exact ⟨i + 1, G', by go_num, by omega, hG', HS8.out⟩
                case measure => simp [intOf]; omega
          · obtain rfl : G' = [] := by
              unfold Ws at hz
              rw [List.length_map] at hz
              exact List.length_eq_zero_iff.1 (by omega)
            have e0 : (Ws ([] : List En)).length = 0 := rfl
            rw [e0] at HS6 hfw ⊢
            clear hz e0
            go_wp2_with fail
            go_loopw [97] (fun j wq => j = .int .i64 0 ∧ AS w w2 w2.heap.size Mb w2.heap.size [] (.slice aw 0 cw) wq) (fun _ _ => 0)
            case atStart => exact ⟨rfl, HS6.out⟩
            case round =>
              clear HS6
              obtain ⟨rfl, hS⟩ := hrel
              have HS8 := hide hS
              clear hS
              go_wp2
              go_roundw
              case rel => exact ⟨i + 1, [], by go_num, by omega, by simp, HS8.out⟩
              case measure => simp [intOf]; omega
      · obtain rfl : i = m := by omega
        have d1 : decide ((i : Int) < (i : Int)) = false := by simp
        have HB3 := hide (HB2.out.trans (HS.out.lw.below.mono HB2.out.size))
        go_wp2
        go_ret
        exact ⟨rfl, HB3.out⟩
end Go.Proofs.YtlhjkacdhfchiaaDoor.LockAloneW
