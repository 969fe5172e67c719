/- LockEnds' walk. -/
import Derived.Test.YtlhjkacdhfchiaaDoorLz
import Derived.Deep.CutBlock
import Derived.Deep.DeepCutAuto
namespace Go.Proofs.YtlhjkacdhfchiaaDoor.LockEndsW
set_option linter.unusedVariables false
set_option linter.unusedSimpArgs false
set_option maxRecDepth 100000
open Go.ChangeShapes Go.WideShapes Go.ChangeAt Go.RowKit
open Go.Proofs.YtlhjkacdhfchiaaDoor.Wu Go.Proofs.YtlhjkacdhfchiaaDoor.Rk Go.Proofs.YtlhjkacdhfchiaaDoor.Rg Go.Proofs.YtlhjkacdhfchiaaDoor.Ps Go.Proofs.YtlhjkacdhfchiaaDoor.Pd Go.Proofs.YtlhjkacdhfchiaaDoor.Px Go.Proofs.YtlhjkacdhfchiaaDoor.Lb Go.Proofs.YtlhjkacdhfchiaaDoor.Lg Go.Proofs.YtlhjkacdhfchiaaDoor.Lh Go.Proofs.YtlhjkacdhfchiaaDoor.Li Go.Proofs.YtlhjkacdhfchiaaDoor.Lk Go.Proofs.YtlhjkacdhfchiaaDoor.Lm Go.Proofs.YtlhjkacdhfchiaaDoor.Lr Go.Proofs.YtlhjkacdhfchiaaDoor.Lt Go.Proofs.YtlhjkacdhfchiaaDoor.Km Go.Proofs.YtlhjkacdhfchiaaDoor.Lu Go.Proofs.YtlhjkacdhfchiaaDoor.Lv Go.Proofs.YtlhjkacdhfchiaaDoor.Lx Go.Proofs.YtlhjkacdhfchiaaDoor.Ly Go.Proofs.YtlhjkacdhfchiaaDoor.Lz
open Go.Proofs.YtlhjkacdhfchiaaDoor.Ba (of_hid)
attribute [local go_sem] kUpon_value kUpon_skip kUpon_enter
theorem keepF_take {zs : List Int} {k : Nat} {z : Int} (hz : zs[k]? = some z) (f : Int → Bool) : (zs.take (k + 1)).filter f = (zs.take k).filter f ++ (if f z then [z] else []) := by
  rw [List.take_add_one, hz, List.filter_append]
  simp [List.filter_cons]
theorem notin_take {zs : List Int} (hn : zs.Nodup) {k : Nat} {z : Int} (hz : zs[k]? = some z) : z ∉ zs.take k := fun h => by
  have hs := Km.split_at zs k z hz
  rw [hs] at hn
  rw [List.nodup_append] at hn
  exact hn.2.2 z h z List.mem_cons_self rfl
set_option maxHeartbeats 12800000 in
theorem walk (a : Option Addr) (m c : Nat) (l : List OpL) (pa : Option Addr) (pm pc : Nat) (zs : List Int) (w : World) (hl : l.length = m) (hmc : m ≤ 9223372036854775807) (g off : Nat) (ha : 0 < m → a = some ⟨g, off, none⟩)
    (hcell : ∀ i o, l[i]? = some o → (∀ j u, (opC o)[j]? = some u → w.cell? ⟨g, off + i * 3 + j, none⟩ = some u) ∧ OkL w o)
    (hpm : pm ≤ 9223372036854775807) (hz : 0 < pm → ∃ xb xo, pa = some ⟨xb, xo, none⟩ ∧ ∀ i, i < pm → w.cell? ⟨xb, xo + i, none⟩ = some (.int .i64 (zs.getD i 0))) :
    Calls Tryd.prog 6 #[.slice a m c, .slice pa pm pc] w fun e w' => e = .returned (.bool true) ∧ Below w.heap.size w w' := by
  have HH := hide (locks_c w)
  have HF := hide (fun (u : World) (hu : Below w.heap.size w u) => fits_c a m c l u hl hmc g off ha (fun i o hi => ⟨fun j x hx => keepC hu (Nat.le_refl _) ((hcell i o hi).1 j x hx), (hcell i o hi).2.below hu⟩))
  have HC := hide hcell
  have Hl := hide hl
  have HPz := hide hz
  clear hcell hl hz
  go_enter Tryd.func6, Tryd.ntmps6
  go_wp2_with fail
  refine HH.out.mono ?_
  rintro e w1 ⟨rfl, hb⟩
  have HB := hide hb
  clear hb HH
  go_wp2_with fail
  refine (HF.out w1 HB.out).mono ?_
  rintro e w2 ⟨b, rfl, hfit, hb⟩
  have HB2 := hide (keepB hb (Nat.le_refl _) HB.out)
  clear hb HF HB
  cases b with
  | false =>
    go_wp2
    go_ret
    exact ⟨rfl, HB2.out⟩
  | true =>
    obtain ⟨h90, hsm⟩ := hfit rfl
    have HSm := hide hsm
    clear hfit hsm
    have HN := hide (new_w (Below.refl w2.heap.size w2))
    go_wp2_with fail
    refine HN.out.mono ?_
    rintro e w3 ⟨rfl, h3⟩
    have H3 := hide h3
    clear h3 HN
    have hmm := @run_makeMap Tryd.prog
    go_wp2_with fail
    clear hmm
    have hsz3 := H3.out.below.size
    have H4 : Hid (AS w w2 w2.heap.size w3.heap.size w2.heap.size [] (.slice none 0 0) (w3.alloc (.map #[] 0))) := hide ⟨H3.out.up (below_new w3 _), MapL.made w3, OwnN.nil _ _, (fun g hg => by cases hg), hsz3, Nat.le_refl _⟩
    generalize w3.alloc (.map #[] 0) = w4 at *
    generalize w3.heap.size = Mb at *
    clear H3
    go_loopw [6, 38] (fun v j wr => ∃ (i : Nat) (G : List En), j = .int .i64 (i : Int) ∧ i ≤ m ∧ G.length ≤ i ∧ AS w w2 w2.heap.size Mb w2.heap.size G v wr) (fun _ j _ => m - (intOf j).toNat)
    case atStart => exact ⟨0, [], rfl, Nat.zero_le _, Nat.le_refl _, H4.out⟩
    case round =>
      clear H4
      obtain ⟨i, G, rfl, hi, hGi, hS⟩ := hrel
      obtain ⟨av, cv, gv, rfl, hfit0, hmax0, -, -⟩ := hS.ord.form
      have HS := hide hS
      clear hS
      by_cases hlt : i < m
      · have d1 : decide ((i : Int) < (m : Int)) = true := by simpa using hlt
        have i1 : (0 : Int) ≤ (i : Int) := by omega
        have i2 : (i : Int) < (m : Int) := by omega
        have hex : ∃ o, l[i]? = some o := ⟨l[i]'(by rw [Hl.out]; exact hlt), List.getElem?_eq_getElem (by rw [Hl.out]; exact hlt)⟩
        obtain ⟨o, hio⟩ := hex
        have hmem := List.mem_of_getElem? hio
        have hsmall := HSm.out o hmem
        obtain ⟨hoc, hok⟩ := HC.out i _ hio
        obtain rfl := ha (by omega)
        have hbw := HB2.out.trans (HS.out.lw.below.mono HB2.out.size)
        have o0 := keepC hbw (Nat.le_refl _) (hoc 0 _ rfl)
        have o1 := keepC hbw (Nat.le_refl _) (hoc 1 _ rfl)
        have o2 := keepC hbw (Nat.le_refl _) (hoc 2 _ rfl)
        rw [Nat.add_zero] at o0
        have HOk := hide hok
        have Hsmall := hide hsmall
        clear hoc hok hio hmem hsmall hbw
        obtain ⟨kd, who, oa, om, oc, T⟩ := o
        simp only at o0 o1 o2
        cases hk0 : (kd != 0) with
        | true =>
          have HS5 := hide (HS.out.up (below_new wr (.cells #[.int .i64 kd, .int .i64 who, .slice oa om oc] 54)))
          clear HS
          go_wp2
          go_roundw
          case rel => exact ⟨i + 1, G, by go_num, by omega, by omega, HS5.out⟩
          case measure => simp [intOf]; omega
        | false =>
          have HS5 := hide (HS.out.up (below_new wr (.cells #[.int .i64 kd, .int .i64 who, .slice oa om oc] 54)))
          have HO5 := hide (heap_last wr (.cells #[.int .i64 kd, .int .i64 who, .slice oa om oc] 54))
          cases hr : askF (Ls G) who T with
          | inl t =>
            obtain ⟨L', b⟩ := t
            obtain ⟨hf, S, hS, rfl⟩ := askF_inl hr
            have HAk := hide (fun (u : World) (hu : Lw w2 w2.heap.size w2.heap.size (Ls G) u) (hs : SrcS u oa T) => ask_k hu who oa om oc T hs HOk.out.len HOk.out.cap HOk.out.max HOk.out.txt hr)
            have HMiss := hide (miss_at hf)
            have HMem := hide (fun p => set_mem hS p)
            have HSrc := hide (HOk.out.src)
            clear hr hf hS HS
            go_wp2_with fail
            generalize wr.alloc (.cells #[.int .i64 kd, .int .i64 who, .slice oa om oc] 54) = w5 at *
            generalize wr.heap.size = Bo at *
            clear o0 o1 o2
            refine (HAk.out w5 HS5.out.lw (HSrc.out.below (HB2.out.trans (HS5.out.lw.below.mono HB2.out.size)))).mono ?_
            rintro e w6 ⟨rfl, h6, hk6⟩
            obtain ⟨hm6, ho6⟩ := HS5.out.kp hk6
            have HP6 := hide (hk6 Bo _ HO5.out (fun c f e => by injection e with _ e _; exact absurd e (by decide)) (fun c f e => by injection e with _ e _; exact absurd e (by decide)))
            have HTx := hide HS5.out.txt
            have HLo := hide (⟨HS5.out.mlow, HS5.out.blow⟩ : _ ∧ _)
            have hb8 := below_new w6 (.cells #[.int .i64 who] 3)
            have H8 := hide (h6.up hb8)
            have HM8 := hide (hm6.same (hb8.block Mb hm6.lt))
            have HO8 := hide (ho6.below hb8)
            have HP8 := hide (below_blk hb8 (heap_lt HP6.out) HP6.out)
            have HX8 := hide (heap_last w6 (.cells #[.int .i64 who] 3))
            have hwl : (Ws G).length ≤ 1000000 := by unfold Ws; rw [List.length_map]; omega
            have q1 := blk_cell (i := 1) HP6.out rfl
            clear h6 hm6 ho6 hk6 HS5 HO5 HAk hb8
            go_wp2_with (refine wpList_appN rfl (.tmp 56) (.tmp 59) rfl _ w2.heap.size (Ws G) w6.heap.size who 3 (0, 0) 1 rfl rfl HO8.out H8.out.below.size HX8.out hwl ?_)
            intro v9 w9 HO9 HG9
            refine of_hid ?_
            have H9 := hide (Lw.keep H8.out HG9.out (own_ne HO8.out) (fun k hk => (HO8.out.blk hk).1))
            have HM9 := hide (HM8.out.same (HG9.out.block Mb HM8.out.lt (map_own HM8.out HO8.out)))
            have HP9 := hide ((HG9.out.block Bo (heap_lt HP8.out) (own_ne HO8.out Bo _ _ _ HP8.out (by decide))).trans HP8.out)
            clear H8 HM8 HO8 HP8 HX8 HG9 HP6 q1
            have q1 := blk_cell (i := 1) HP9.out rfl
            have q2 := blk_cell (i := 2) HP9.out rfl
            have hroom : (G.map enV).length < maxLen := by rw [List.length_map]; unfold maxLen; omega
            go_wp2_with (refine wpList_put rfl (.tmp 61) (.tmp 63) (.tmp 65) 68 rfl 3 52 law_int Tryd.underlying68 Mb (G.map enV) rfl HM9.out hroom (.int .i64 who) (.slice oa om oc) (.int .i64 who) rfl rfl (key_int HOk.out.wf) ?_)
            intro l' w7 HM7 HPu HG7
            refine of_hid ?_
            obtain ⟨gE, hgE⟩ : ∃ gE : En, gE = ⟨(who, S), oa, om, oc, T⟩ := ⟨_, rfl⟩
            have hl' : l' = (G ++ [gE]).map enV := by
              subst hgE
              exact put_end HPu.out HMiss.out
            have hLs : Ls G ++ [(who, S)] = Ls (G ++ [gE]) := by subst hgE; simp [Ls]
            have hWs : Ws G ++ [who] = Ws (G ++ [gE]) := by subst hgE; simp [Ws]
            have hTx : ∀ g ∈ G ++ [gE], OkE w g := fun x hx => by
              rcases List.mem_append.1 hx with hx | hx
              · exact HTx.out x hx
              · rw [List.mem_singleton.1 hx, hgE]
                exact ⟨HOk.out.src, HOk.out.len, HOk.out.cap, HOk.out.max, HMem.out, HOk.out.wf⟩
            have hmn := map_ne HM9.out
            have HS9 : Hid (AS w w2 w2.heap.size Mb w2.heap.size (G ++ [gE]) v9 w7) := hide ⟨by
              rw [← hLs]
              exact Lw.keep H9.out HG7.out (fun k c T f hc _ => hmn k c T f hc) (fun k hk => by injection hk with hk; rw [← hk]; exact HLo.out.1), by rw [← hl']; exact HM7.out, by
              rw [← hWs]
              exact HO9.out.same fun g2 hg2 => by
                obtain ⟨_, c, f, hc⟩ := HO9.out.blk hg2
                exact HG7.out.block g2 (heap_lt hc) (hmn g2 c _ f hc), hTx, HLo.out.1, HLo.out.2⟩
            have hlG : (G ++ [gE]).length = G.length + 1 := by simp
            clear hgE hl' hLs hWs hTx hmn HM7 HPu HG7 H9 HM9 HO9 HP9 HTx HMiss HMem q1 q2 hroom
            go_wp2
            go_roundw
            case rel => exact ⟨i + 1, G ++ [gE], by go_num, by omega, by omega, HS9.out⟩
            case measure => simp [intOf]; omega
          | inr cE =>
            have HAk := hide (fun (u : World) (hu : Lw w2 w2.heap.size w2.heap.size (Ls G) u) (hs : SrcS u oa T) => ask_c hu.lk who oa oc T hs (by rw [HOk.out.len]; exact HOk.out.cap) HOk.out.max HOk.out.txt hu.size)
            rw [hr] at HAk
            have HSrc := hide (HOk.out.src)
            have hTl : T.length = om := HOk.out.len
            rw [hTl] at HAk
            clear hr hTl HS
            go_wp2_with fail
            generalize wr.alloc (.cells #[.int .i64 kd, .int .i64 who, .slice oa om oc] 54) = w5 at *
            generalize wr.heap.size = Bo at *
            clear o0 o1 o2
            refine (HAk.out w5 HS5.out.lw (HSrc.out.below (HB2.out.trans (HS5.out.lw.below.mono HB2.out.size)))).mono ?_
            rintro e w6 ⟨v, rfl, hv, hb⟩
            obtain ⟨Ty, x, rfl⟩ := errv_shape hv
            have HS6 := hide (HS5.out.up hb)
            clear hb hv HS5 HO5 HAk
            go_wp2
            go_roundw
            case rel => exact ⟨i + 1, G, by go_num, by omega, by omega, HS6.out⟩
            case measure => simp [intOf]; omega
      · obtain rfl : i = m := by omega
        have d1 : decide ((i : Int) < (i : Int)) = false := by simp
        have HTx := hide HS.out.txt
        have HOn := hide HS.out.once
        have hGl : G.length ≤ 90 := by omega
        have HWl : Hid ((Ws G).length = G.length) := hide (by unfold Ws; rw [List.length_map])
        have hwb : (Ws G).length ≤ 90 := by rw [HWl.out]; exact hGl
        have HWf : Hid (∀ x ∈ Ws G, (Lit.int .i64 x).wf = true) := hide (fun x hx => by
          unfold Ws at hx
          obtain ⟨g, hg, rfl⟩ := List.mem_map.1 hx
          exact (HTx.out g hg).wf)
        have HE0 : Hid (E0 w2 w2.heap.size Mb wr.heap.size G (.slice av (Ws G).length cv) (Ls G) (.slice none 0 0) [] wr) := hide ⟨HS.out.lw, HS.out.mp, HS.out.ord, OwnN.nil _ _, fun g hg => (World.ownsRow.lt HS.out.ord g hg).2, Nat.le_refl _, HS.out.mlow, HS.out.lw.below.size, Nat.le_refl _⟩
        clear HS hGi
        go_wp2_with fail
        generalize wr.heap.size = sz1 at *
        go_loopw [12, 69] (fun hv j wr => ∃ k : Nat, j = .int .i64 (k : Int) ∧ k ≤ (Ws G).length ∧ E0 w2 w2.heap.size Mb sz1 G (.slice av (Ws G).length cv) (Ls G) hv (((Ws G).take k).filter (hasL (Ls G))) wr) (fun _ j _ => (Ws G).length - (intOf j).toNat)
        case atStart => exact ⟨0, rfl, Nat.zero_le _, by rw [List.take_zero]; exact HE0.out⟩
        case round =>
          clear HE0
          obtain ⟨k, rfl, hk, hE⟩ := hrel
          have HE := hide hE
          clear hE
          by_cases hlk : k < (Ws G).length
          · have d2 : decide ((k : Int) < ((Ws G).length : Int)) = true := by simpa using hlk
            have i3 : (0 : Int) ≤ (k : Int) := by omega
            have i4 : (k : Int) < ((Ws G).length : Int) := by omega
            have hexz : ∃ z, (Ws G)[k]? = some z := ⟨(Ws G)[k], List.getElem?_eq_getElem hlk⟩
            obtain ⟨z, hzk⟩ := hexz
            obtain ⟨av2, cv2, gv2, hv2, -, -, hav2, hcv2⟩ := HE.out.ord.form
            injection hv2 with z1 z2 z3
            subst z1 z3
            obtain rfl := hav2 (by omega)
            have cz := hcv2 k z hzk
            have HKt := hide (keepF_take hzk (hasL (Ls G)))
            have HHc := hide (has_c HE.out.lw.lk z)
            have hwl : (((Ws G).take k).filter (hasL (Ls G))).length ≤ 1000000 := Nat.le_trans (List.length_filter_le _ _) (by rw [List.length_take]; omega)
            obtain ⟨b, hb0⟩ : ∃ b, b = hasL (Ls G) z := ⟨_, rfl⟩
            rw [← hb0] at HKt HHc
            clear hcv2 hav2 hzk hb0
            go_wp2_with fail
            clear cz
            refine HHc.out.mono ?_
            rintro e w7 ⟨rfl, hb⟩
            have HE7 := hide (HE.out.up hb)
            clear hb HE HHc
            cases b with
            | false =>
              have HKt2 : Hid (((Ws G).take (k + 1)).filter (hasL (Ls G)) = ((Ws G).take k).filter (hasL (Ls G))) := hide (by rw [HKt.out]; simp)
              go_wp2
              go_roundw
              case rel => exact ⟨k + 1, by go_num, by omega, by rw [HKt2.out]; exact HE7.out⟩
              case measure => simp [intOf]; omega
            | true =>
              have HKt2 : Hid (((Ws G).take (k + 1)).filter (hasL (Ls G)) = ((Ws G).take k).filter (hasL (Ls G)) ++ [z]) := hide (by rw [HKt.out]; simp)
              have hb8 := below_new w7 (.cells #[.int .i64 z] 3)
              have HE8 := hide (HE7.out.up hb8)
              have HX8 := hide (heap_last w7 (.cells #[.int .i64 z] 3))
              clear hb8 HE7
              go_wp2_with (refine wpList_appN rfl (.tmp 76) (.tmp 78) rfl _ sz1 (((Ws G).take k).filter (hasL (Ls G))) w7.heap.size z 3 (0, 0) 1 rfl rfl HE8.out.hs HE8.out.szle HX8.out hwl ?_)
              intro v9 w9 HO9 HG9
              refine of_hid ?_
              have HE9 := hide (HE8.out.app HO9.out HG9.out)
              clear HE8 HX8 HO9 HG9
              go_wp2
              go_roundw
              case rel => exact ⟨k + 1, by go_num, by omega, by rw [HKt2.out]; exact HE9.out⟩
              case measure => simp [intOf]; omega
          · obtain rfl : k = (Ws G).length := by omega
            have d2 : decide (((Ws G).length : Int) < ((Ws G).length : Int)) = false := by simp
            rw [List.take_length] at HE
            obtain ⟨has0, hhas0⟩ : ∃ has0, has0 = (Ws G).filter (hasL (Ls G)) := ⟨_, rfl⟩
            have HJ : Hid (J (Ls G) (Ls G) has0 has0) := hide (by
              rw [hhas0]
              refine J.start HOn.out (free_filter HOn.out) ?_
              have hnw : (Ws G).Nodup := by
                have e : Ws G = (Ls G).map (·.1) := by simp [Ws, Ls]
                rw [e]
                exact List.pairwise_map.2 HOn.out
              exact hnw.sublist List.filter_sublist)
            have HSub : Hid (∀ x ∈ has0, x ∈ Ws G) := hide (fun x hx => by rw [hhas0] at hx; exact (List.mem_filter.1 hx).1)
            have hh0 : has0.length ≤ 90 := by
              rw [hhas0]
              exact Nat.le_trans (List.length_filter_le _ _) (by omega)
            rw [← hhas0] at HE
            clear hhas0
            obtain ⟨ah, ch, gh, rfl, -, -, -, -⟩ := HE.out.hs.form
            have hmm := @run_makeMap Tryd.prog
            go_wp2_with fail
            clear hmm
            have hb3 := below_new wr (.map #[] 0)
            have HE3 := hide (HE.out.up hb3)
            have HM3 : Hid (MapL Tryd.prog 3 (wr.alloc (.map #[] 0)) wr.heap.size (hadE (has0.take 0))) := hide (MapL.made wr)
            have hne : Mb ≠ wr.heap.size := Nat.ne_of_lt HE.out.mp.lt
            have hHlow : w2.heap.size ≤ wr.heap.size := HE.out.lw.below.size
            generalize wr.alloc (.map #[] 0) = w5 at *
            generalize wr.heap.size = Hb at *
            clear hb3 HE
            go_loopw [84] (fun j wr => ∃ k : Nat, j = .int .i64 (k : Int) ∧ k ≤ has0.length ∧ E0 w2 w2.heap.size Mb sz1 G (.slice av (Ws G).length cv) (Ls G) (.slice ah has0.length ch) has0 wr ∧ MapL Tryd.prog 3 wr Hb (hadE (has0.take k))) (fun j _ => has0.length - (intOf j).toNat)
            case atStart => exact ⟨0, rfl, Nat.zero_le _, HE3.out, HM3.out⟩
            case round =>
              clear HE3 HM3
              obtain ⟨k, rfl, hk, hE, hM⟩ := hrel
              have HE := hide hE
              have HM := hide hM
              clear hE hM
              by_cases hlk : k < has0.length
              · have d3 : decide ((k : Int) < (has0.length : Int)) = true := by simpa using hlk
                have i3 : (0 : Int) ≤ (k : Int) := by omega
                have i4 : (k : Int) < (has0.length : Int) := by omega
                have hexz : ∃ z, has0[k]? = some z := ⟨has0[k], List.getElem?_eq_getElem hlk⟩
                obtain ⟨z, hzk⟩ := hexz
                obtain ⟨av2, cv2, gv2, hv2, -, -, hav2, hcv2⟩ := HE.out.hs.form
                injection hv2 with z1 z2 z3
                subst z1 z3
                obtain rfl := hav2 (by omega)
                have cz := hcv2 k z hzk
                have eL : (has0.take k).length = k := by rw [List.length_take]; omega
                have hroom : (hadE (has0.take k)).length < maxLen := by rw [hadE_len, eL]; unfold maxLen; omega
                have hw1 : IntKind.i64.wrap ((k : Int) + 1) = (k : Int) + 1 := IntWalk.i64_in _ (by omega)
                have hwf := HWf.out z (HSub.out z (List.mem_of_getElem? hzk))
                have Hzk := hide hzk
                have HeL := hide eL
                clear hcv2 hav2 hzk eL
                go_wp2_with (refine wpList_put rfl (.tmp 89) (.tmp 90) (.tmp 92) 71 rfl 3 3 law_int Tryd.underlying71 Hb (hadE (has0.take k)) rfl HM.out hroom (.int .i64 z) (.int .i64 ((k : Int) + 1)) (.int .i64 z) rfl rfl (key_int hwf) ?_)
                intro l' w7 HM7 HPu HG7
                refine of_hid ?_
                have hl' : l' = hadE (has0.take (k + 1)) := by
                  have := hadE_put (H := has0.take k) (w := z) (l' := l') (by rw [HeL.out]; exact HPu.out) (notin_take HJ.out.nd Hzk.out)
                  rw [this, List.take_add_one, Hzk.out]
                  rfl
                have HE7 := hide (HE.out.put HM.out hne hHlow HG7.out)
                have HM7' : Hid (MapL Tryd.prog 3 w7 Hb (hadE (has0.take (k + 1)))) := hide (by rw [← hl']; exact HM7.out)
                clear hl' HM7 HPu HG7 HE HM cz hroom hwf
                go_wp2
                go_roundw
                case rel => exact ⟨k + 1, by go_num, by omega, HE7.out, HM7'.out⟩
                case measure => simp [intOf]; omega
              · obtain rfl : k = has0.length := by omega
                have d3 : decide ((has0.length : Int) < (has0.length : Int)) = false := by simp
                rw [List.take_length] at HM
                have hLl : (Ls G).length = G.length := by unfold Ls; rw [List.length_map]
                have HLl := hide hLl
                clear hLl
                go_wp2_with fail
                go_loopw [12, 18, 19] (fun hv n kk wr => ∃ (sz : Nat) (has H : List Int) (L : List Wh) (q : Nat), n = .int .i64 (H.length : Int) ∧ kk = .int .i64 (q : Int) ∧ q + L.length = G.length ∧ has.length ≤ 100 * (q + 1) ∧ H.length ≤ 100 * (q + 1) ∧ J (Ls G) L has H ∧ E0 w2 w2.heap.size Mb sz G (.slice av (Ws G).length cv) L hv has wr ∧ MapL Tryd.prog 3 wr Hb (hadE H)) (fun _ _ kk _ => G.length - (intOf kk).toNat)
                case atStart => exact ⟨sz1, has0, has0, Ls G, 0, rfl, rfl, by rw [HLl.out]; omega, by omega, by omega, HJ.out, HE.out, HM.out⟩
                case round =>
                  clear HE HM HJ HSub hh0 d3
                  obtain ⟨sz, has, H, L, q, rfl, rfl, hqL, hhl, hHl, hJ, hE, hM⟩ := hrel
                  obtain ⟨ah2, ch2, gh2, rfl, hhf, hhm, hha, hhc⟩ := hE.hs.form
                  have HJ := hide hJ
                  have HE := hide hE
                  have HM := hide hM
                  have HHc := hide hhc
                  clear hJ hE hM hhc
                  by_cases hpos : 0 < has.length
                  · have d4 : decide ((0 : Int) < (has.length : Int)) = true := decide_eq_true (by omega)
                    obtain rfl := hha hpos
                    have hqb : q ≤ 90 := by omega
                    go_upto_region 35 with (fail)
                    go_cut [111] (fun u wx => ∃ b : Bool, u = .bool b ∧ (b = true → ∃ (zn xb xo : Nat), pa = some ⟨xb, xo, none⟩ ∧ w.cell? ⟨xb, xo + q, none⟩ = some (.int .i64 (zn : Int)) ∧ q < pm) ∧ wx = wr)
                    case first =>
                      have hbw := HB2.out.trans (HE.out.lw.below.mono HB2.out.size)
                      by_cases hqp : q < pm
                      · have d5 : decide ((q : Int) < (pm : Int)) = true := by simpa using hqp
                        have j1 : (0 : Int) ≤ (q : Int) := by omega
                        have j2 : (q : Int) < (pm : Int) := by omega
                        obtain ⟨xb, xo, rfl, hcp⟩ := HPz.out (by omega)
                        have hcq := hcp q hqp
                        have cp := keepC hbw (Nat.le_refl _) hcq
                        obtain ⟨z, hzd⟩ : ∃ z, z = zs.getD q 0 := ⟨_, rfl⟩
                        rw [← hzd] at cp hcq
                        have HCq := hide hcq
                        clear hcp hzd hbw hcq
                        by_cases hz0 : 0 ≤ z
                        · have d6 : decide ((0 : Int) ≤ z) = true := decide_eq_true hz0
                          obtain ⟨zn, hzn⟩ := Int.eq_ofNat_of_zero_le hz0
                          have Hzn := hide hzn
                          clear hzn
                          go_wp2_with fail
                          go_meet
                          exact ⟨true, rfl, fun _ => ⟨zn, xb, xo, rfl, by rw [← Hzn.out]; exact HCq.out, hqp⟩, rfl⟩
                        · have d6 : decide ((0 : Int) ≤ z) = false := decide_eq_false (by omega)
                          go_wp2_with fail
                          go_meet
                          exact ⟨false, rfl, (fun h => by cases h), rfl⟩
                      · have d5 : decide ((q : Int) < (pm : Int)) = false := by simpa using hqp
                        clear hbw
                        go_wp2_with fail
                        go_meet
                        exact ⟨false, rfl, (fun h => by cases h), rfl⟩
                    case rest =>
                      obtain ⟨b35, hu35, hb35, hw35⟩ := hcut
                      subst hu35 hw35
                      have HB35 := hide hb35
                      clear hb35
                      go_upto_if 111 with (fail)
                      go_cut [20] (fun u wx => ∃ at_ : Nat, u = .int .i64 (at_ : Int) ∧ at_ < has.length ∧ wx = wc)
                      case first =>
                        cases b35 with
                        | false =>
                          go_wp2_with fail
                          go_meet
                          exact ⟨0, rfl, hpos, rfl⟩
                        | true =>
                          obtain ⟨zn, xb, xo, hpa, hcq, hqp⟩ := HB35.out rfl
                          subst hpa
                          have hbw := HB2.out.trans (HE.out.lw.below.mono HB2.out.size)
                          have cp := keepC hbw (Nat.le_refl _) hcq
                          have j1 : (0 : Int) ≤ (q : Int) := by omega
                          have j2 : (q : Int) < (pm : Int) := by omega
                          have n0 : ((has.length : Int) == 0) = false := beq_false_of_ne (by omega)
                          have hlt7 : zn % has.length < has.length := Nat.mod_lt _ hpos
                          have Hlt7 := hide hlt7
                          clear hbw hcq hlt7
                          go_wp2_with fail
                          go_meet
                          exact ⟨zn % has.length, by first | rfl | simp, Hlt7.out, rfl⟩
                      case rest =>
                        obtain ⟨at_, hu, hat, hwc⟩ := hcut
                        subst hu hwc
                        have hexx : ∃ x1, has[at_]? = some x1 := ⟨has[at_], List.getElem?_eq_getElem hat⟩
                        obtain ⟨x1, hx1⟩ := hexx
                        have hfr := (HJ.out.free x1).1 (List.mem_of_getElem? hx1)
                        obtain ⟨ix, x, hx, rfl, hfx⟩ := hfr
                        have hoL : Once L := HJ.out.once.sublist HJ.out.sub
                        have hRel := rel_s HE.out.lw x.1 (find_at hoL hx) hx
                        have hst := HJ.out.step hx hx1
                        have hil := (List.getElem?_eq_some_iff.1 hx).1
                        have hyl := nx_len (Lx.cut L ix) x.2 ix (L.length - 1 - ix)
                        have hcl := Lx.cut_len hil
                        obtain ⟨ys, hys⟩ : ∃ ys, ys = nx (Lx.cut L ix) x.2 ix (L.length - 1 - ix) := ⟨_, rfl⟩
                        rw [← hys] at hRel hst hyl
                        have HRel := hide hRel
                        have HSt := hide hst
                        have hyb : ys.length ≤ 90 := by omega
                        have cz := HHc.out at_ _ hx1
                        have k1 : (0 : Int) ≤ (at_ : Int) := by omega
                        have k2 : (at_ : Int) < (has.length : Int) := by omega
                        have hgh : gh2 = gh2 := rfl
                        clear hfx hoL hRel hst hys hx1 hx
                        go_wp2_with fail
                        clear cz
                        refine HRel.out.mono ?_
                        rintro e w6 ⟨vW, rfl, hoW, h6, hk6, hs6⟩
                        obtain ⟨aW, cW, gW, rfl, -, -, haW, hcW⟩ := hoW.form
                        have HE6 := hide (HE.out.kp h6 hk6 hs6)
                        have HM6 := hide (kp_map HM.out hk6)
                        have HOW := hide hoW
                        have HHl : w2.heap.size ≤ w6.heap.size := HE6.out.lw.below.size
                        have HMlt : Hb < w6.heap.size := HM6.out.lt
                        obtain ⟨ah3, ch3, gh3, hv3, -, -, hha3, hhc3⟩ := HE6.out.hs.form
                        injection hv3 with y1 y2 y3
                        subst y3
                        have y4 := hha3 hpos
                        rw [y4] at y1
                        injection y1 with y1
                        injection y1 with y1
                        subst y1
                        have HHc6 := hide hhc3
                        clear h6 hk6 hs6 hoW haW hcW hha3 hhc3 y2 y4 HRel HE HM HHc
                        obtain ⟨Ad, hAd⟩ : ∃ Ad : Addr, Ad = if ch2 = at_ + 1 then ⟨gh2, 0, none⟩ else ⟨gh2, at_ + 1, none⟩ := ⟨_, rfl⟩
                        have HR1 : Hid (∀ (u : World), Below w6.heap.size w6 u → ∀ j z, (has.take at_)[j]? = some z → u.cell? ((Addr.mk gh2 0 none).add j) = some (.int .i64 z)) := hide (fun u hu j z hz => by
                          rw [Addr.add_mid, Nat.zero_add]
                          refine keepC hu (Nat.le_refl _) (HHc6.out j z ?_)
                          rw [List.getElem?_take] at hz
                          split at hz
                          · exact hz
                          · cases hz)
                        have HR2 : Hid (∀ (u : World), Below w6.heap.size w6 u → ∀ j z, (has.drop (at_ + 1))[j]? = some z → u.cell? (Ad.add j) = some (.int .i64 z)) := hide (fun u hu j z hz => by
                          have hj := (List.getElem?_eq_some_iff.1 hz).1
                          rw [List.length_drop] at hj
                          rw [hAd, if_neg (by omega), Addr.add_mid]
                          refine keepC hu (Nat.le_refl _) (HHc6.out _ z ?_)
                          rw [List.getElem?_drop] at hz
                          exact hz)
                        have HAd := hide hAd
                        have j0 : (0 : Int) ≤ (at_ : Int) + 1 := by omega
                        have j3 : (at_ : Int) ≤ (ch2 : Int) := by omega
                        have j4 : (at_ : Int) + 1 ≤ (has.length : Int) := by omega
                        have hwx : IntKind.i64.wrap ((at_ : Int) + 1) = (at_ : Int) + 1 := IntWalk.i64_in _ (by omega)
                        clear hAd
                        go_wp2_with fail
                        refine wp_region_g (T40 w6 (has.take at_) (cutI has at_)) [none, some (some (.slice (some ⟨gh2, 0, none⟩) has.length ch2)), some (some (.int .i64 (at_ : Int))), some (some (.slice (some ⟨gh2, 0, none⟩) at_ ch2)), none, some (some (.slice (some ⟨gh2, 0, none⟩) has.length ch2)), some (some (.int .i64 (at_ : Int))), some (some (.int .i64 ((at_ : Int) + 1))), some (some (.slice (some Ad) (has.length - (at_ + 1)) (ch2 - (at_ + 1)))), none, some none] (by kernel_rfl) (by kernel_rfl) [0, 4, 9] [0, 4, 9, 10] (by rfl) (by rfl) (by kernel_rfl) ⟨⟨rfl, rfl, rfl, Nat.le_refl _, fun _ _ => rfl⟩, fun h => by simp at h, fun h => by simp at h, fun h => by simp at h⟩ ?_
                        refine gD_step (fun v => ∃ a n c, v = .slice a n c) ⟨_, none, 0, 0, rfl⟩ (by rfl) (fun u K hT hK => ?_) (fun v1 hv1 => ?_)
                        · go_simp
                          have hb := below_new u (.cells #[] 3)
                          refine hK _ _ ⟨_, _, _, rfl⟩ ⟨keepB hb (Nat.le_refl _) hT.below, fun _ v hv => ?_, fun h => by simp at h, fun h => by simp at h⟩
                          simp at hv
                          subst hv
                          exact ⟨rfl, .inr ⟨u.heap.size, 0, #[], rfl, hT.below.size, heap_last _ _, Nat.le_refl _, by simp [maxLen], rfl, rfl⟩⟩
                        obtain ⟨b1, n1, c1, rfl⟩ := hv1
                        simp only [Act.put, List.setIfInBounds_toArray, List.set_cons_zero, List.set_cons_succ]
                        iterate 3
                          (refine gF_step (by rfl) (fun h u K hT hK => ?_) ?_
                           · go_simp
                             exact hK _ hT
                           simp only [Act.put, List.setIfInBounds_toArray, List.set_cons_zero, List.set_cons_succ])
                        refine gD_step (fun v => ∃ a n c, v = .slice a n c) ⟨_, none, 0, 0, rfl⟩ (by rfl) (fun u K hT hK => ?_) (fun v2 hv2 => ?_)
                        · have h0 := hT.one rfl _ rfl
                          obtain ⟨v', w', hrun, h1, h2⟩ := append_atN u 23 _ w6.heap.size [] (has.take at_) ⟨gh2, 0, none⟩ ch2 h0 hT.below.size (HR1.out u hT.below) (by rw [List.length_take]; simp; omega)
                          have hl : (has.take at_).length = at_ := by rw [List.length_take]; omega
                          rw [hl] at hrun
                          refine kUpon_appN (.tmp 130) (.tmp 133) rfl hrun (hK _ _ ?_ ⟨hT.below.trans (ownN_below h0 h2 hT.below.size), fun h => by simp at h, fun _ v hv => ?_, fun h => by simp at h⟩)
                          · obtain ⟨a, cap, _, e, _⟩ := h1.form
                            exact ⟨_, _, _, e⟩
                          · simp at hv
                            subst hv
                            exact h1
                        obtain ⟨b2, n2, c2, rfl⟩ := hv2
                        simp only [Act.put, List.setIfInBounds_toArray, List.set_cons_zero, List.set_cons_succ]
                        iterate 3
                          (refine gF_step (by rfl) (fun h u K hT hK => ?_) ?_
                           · go_simp
                             exact hK _ hT
                           simp only [Act.put, List.setIfInBounds_toArray, List.set_cons_zero, List.set_cons_succ])
                        refine gF_step (by rfl) (fun h u K hT hK => ?_) ?_
                        · go_simp
                          have e : (if ch2 = at_ + 1 then some (Addr.mk gh2 0 none) else some (Addr.mk gh2 (at_ + 1) none)) = some Ad := by rw [HAd.out]; split <;> rfl
                          rw [e]
                          exact hK _ hT
                        simp only [Act.put, List.setIfInBounds_toArray, List.set_cons_zero, List.set_cons_succ]
                        refine gD_step (fun v => True) ⟨undef, trivial⟩ (by rfl) (fun u K hT hK => ?_) (fun v3 hv3 => ?_)
                        · have h0 := hT.two rfl _ rfl
                          obtain ⟨v', w', hrun, h1, h2⟩ := append_atN u 23 _ w6.heap.size (has.take at_) (has.drop (at_ + 1)) Ad (ch2 - (at_ + 1)) h0 hT.below.size (HR2.out u hT.below) (by rw [List.length_take, List.length_drop]; omega)
                          rw [List.length_drop] at hrun
                          refine kUpon_appN (.tmp 134) (.tmp 138) rfl hrun (hK _ _ trivial ⟨hT.below.trans (ownN_below h0 h2 hT.below.size), fun h => by simp at h, fun h => by simp at h, fun _ v hv => ?_⟩)
                          simp at hv
                          subst hv
                          exact h1
                        simp only [Act.put, List.setIfInBounds_toArray, List.set_cons_zero, List.set_cons_succ]
                        refine gG_step (v := v3) (by rfl) (fun h' u K hT hK => ?_) ?_
                        · go_simp
                          exact hK _ hT
                        simp only [Act.put, List.setIfInBounds_toArray, List.set_cons_zero, List.set_cons_succ]
                        refine g_nil (fun w7 hT => ?_)
                        have HE7 := hide (HE6.out.fresh hT.below (hT.three rfl v3 rfl))
                        have HM7 := hide (HM6.out.same (hT.below.block Hb HM6.out.lt))
                        have HOW7 := hide (HOW.out.below hT.below)
                        have HWb := hide (fun g2 (h : (Value.slice aW ys.length cW).ownBlock = some g2) => (World.ownsRow.lt HOW.out g2 h).2)
                        have HNd := hide HSt.out.ndH
                        have HYw : Hid (∀ z ∈ ys, (Lit.int .i64 z).wf = true) := hide (fun z hz => by
                          have h1 := ((HSt.out.keys z).1 (List.mem_append_right _ hz)).1
                          obtain ⟨x0, hx0, e0⟩ := h1
                          refine HWf.out z ?_
                          unfold Ls at hx0
                          obtain ⟨g0, hg0, e1⟩ := List.mem_map.1 hx0
                          unfold Ws
                          exact List.mem_map.2 ⟨g0, hg0, by rw [e1, e0]⟩)
                        have hcI : (cutI has at_).length ≤ has.length := by unfold cutI; rw [List.length_append, List.length_take, List.length_drop]; omega
                        clear hT HE6 HM6 HOW HR1 HR2 HAd HHc6 HHl j0 j3 j4 hwx k1 k2
                        go_wp2_with fail
                        generalize w6.heap.size = sz7 at *
                        go_loopw [12, 18, 142] (fun hv n j wq => ∃ y nn : Nat, j = .int .i64 (y : Int) ∧ n = .int .i64 (nn : Int) ∧ nn = H.length + y ∧ y ≤ ys.length ∧ E0 w2 w2.heap.size Mb sz7 G (.slice av (Ws G).length cv) (Lx.cut L ix) hv (cutI has at_ ++ ys.take y) wq ∧ MapL Tryd.prog 3 wq Hb (hadE (H ++ ys.take y)) ∧ OwnN wq wc.heap.size (.slice aW ys.length cW) ys) (fun _ _ j _ => ys.length - (intOf j).toNat)
                        case atStart => exact ⟨0, H.length, rfl, rfl, rfl, Nat.zero_le _, by rw [List.take_zero, List.append_nil]; exact HE7.out, by rw [List.take_zero, List.append_nil]; exact HM7.out, HOW7.out⟩
                        case round =>
                          clear HE7 HM7 HOW7
                          obtain ⟨y, nn, rfl, rfl, hnn, hy, hE, hM, hO⟩ := hrel
                          have HE := hide hE
                          have HM := hide hM
                          have HO := hide hO
                          have HNn := hide hnn
                          clear hE hM hO hnn
                          by_cases hly : y < ys.length
                          · have d5 : decide ((y : Int) < (ys.length : Int)) = true := by simpa using hly
                            have i5 : (0 : Int) ≤ (y : Int) := by omega
                            have i6 : (y : Int) < (ys.length : Int) := by omega
                            have hexz : ∃ z, ys[y]? = some z := ⟨ys[y], List.getElem?_eq_getElem hly⟩
                            obtain ⟨z, hzy⟩ := hexz
                            obtain ⟨aW2, cW2, gW2, hvW, -, -, haW2, hcW2⟩ := HO.out.form
                            injection hvW with z1 z2 z3
                            subst z1 z3
                            obtain rfl := haW2 (by omega)
                            have cz := hcW2 y z hzy
                            have eH : (H ++ ys.take y).length = nn := by rw [HNn.out, List.length_append, List.length_take, Nat.min_eq_left (by omega)]
                            have hnot : z ∉ H ++ ys.take y := by
                              have h9 := notin_take (k := H.length + y) HNd.out (z := z) (by rw [List.getElem?_append_right (Nat.le_add_right _ _), Nat.add_sub_cancel_left]; exact hzy)
                              rwa [List.take_append, List.take_of_length_le (Nat.le_add_right _ _), Nat.add_sub_cancel_left] at h9
                            have hwf := HYw.out z (List.mem_of_getElem? hzy)
                            have hroom : (hadE (H ++ ys.take y)).length < maxLen := by rw [hadE_len, eH]; have h9 : nn = H.length + y := HNn.out; unfold maxLen; omega
                            have hw1 : IntKind.i64.wrap ((nn : Int) + 1) = (nn : Int) + 1 := IntWalk.i64_in _ (by have h9 : nn = H.length + y := HNn.out; omega)
                            have HeH := hide eH
                            have HNot := hide hnot
                            have hTk : ys.take (y + 1) = ys.take y ++ [z] := by rw [List.take_add_one, hzy]; rfl
                            have HTk := hide hTk
                            clear hcW2 haW2 hzy eH hnot hTk
                            go_wp2_with (refine wpList_put rfl (.tmp 148) (.tmp 149) (.tmp 150) 71 rfl 3 3 law_int Tryd.underlying71 Hb (hadE (H ++ ys.take y)) rfl HM.out hroom (.int .i64 z) (.int .i64 ((nn : Int) + 1)) (.int .i64 z) rfl rfl (key_int hwf) ?_)
                            intro l' w8 HM8 HPu HG8
                            refine of_hid ?_
                            have hl' : l' = hadE (H ++ ys.take (y + 1)) := by
                              have := hadE_put (H := H ++ ys.take y) (w := z) (l' := l') (by rw [HeH.out]; exact HPu.out) HNot.out
                              rw [this, HTk.out, List.append_assoc]
                            have HE8 := hide (HE.out.put HM.out hne hHlow HG8.out)
                            have HM8' : Hid (MapL Tryd.prog 3 w8 Hb (hadE (H ++ ys.take (y + 1)))) := hide (by rw [← hl']; exact HM8.out)
                            have HO8 := hide (HO.out.same fun g2 hg2 => by
                              obtain ⟨_, c, f, hc⟩ := HO.out.blk hg2
                              exact HG8.out.block g2 (heap_lt hc) (map_ne HM.out g2 c _ f hc))
                            have hb9 := below_new w8 (.cells #[.int .i64 z] 3)
                            have HE9 := hide (HE8.out.up hb9)
                            have HM9 := hide (HM8'.out.same (hb9.block Hb HM8'.out.lt))
                            have HO9 := hide (HO8.out.below hb9)
                            have HX9 := hide (heap_last w8 (.cells #[.int .i64 z] 3))
                            have hwl : (cutI has at_ ++ ys.take y).length ≤ 1000000 := by rw [List.length_append, List.length_take]; omega
                            clear hl' HM8 HPu HG8 HE HM HO cz hroom hwf HE8 HM8' HO8 hb9
                            go_wp2_with (refine wpList_appN rfl (.tmp 151) (.tmp 153) rfl _ sz7 (cutI has at_ ++ ys.take y) w8.heap.size z 3 (0, 0) 1 rfl rfl HE9.out.hs HE9.out.szle HX9.out hwl ?_)
                            intro v10 w10 HO10 HG10
                            refine of_hid ?_
                            have HE10 := hide (HE9.out.app HO10.out HG10.out)
                            have HM10 := hide (HM9.out.same (HG10.out.block Hb HM9.out.lt (map_own HM9.out HE9.out.hs)))
                            have HO11 := hide (HO9.out.same fun g2 hg2 => HG10.out.block g2 (World.ownsRow.lt HO9.out g2 hg2).2 (fun e => by
                              have h1 := (HE9.out.hs.blk e.symm).1
                              have h2 := HWb.out g2 hg2
                              omega))
                            clear HE9 HM9 HO9 HX9 HG10 HO10
                            go_wp2
                            go_roundw
                            case rel => exact ⟨y + 1, nn + 1, by go_num, by go_num, by have := HNn.out; omega, by omega, by rw [HTk.out]; first | exact HE10.out | (rw [← List.append_assoc]; exact HE10.out), HM10.out, HO11.out⟩
                            case measure => simp [intOf]; omega
                          · obtain rfl : y = ys.length := by omega
                            have d5 : decide ((ys.length : Int) < (ys.length : Int)) = false := by simp
                            rw [List.take_length] at HE HM
                            go_wp2
                            go_roundw
                            case rel => exact ⟨sz7, cutI has at_ ++ ys, H ++ ys, Lx.cut L ix, q + 1, by rw [HNn.out, List.length_append], by go_num, by omega, by rw [List.length_append]; omega, by rw [List.length_append]; omega, HSt.out, HE.out, HM.out⟩
                            case measure => simp [intOf]; omega
                  · have h0 : has.length = 0 := by omega
                    have h00 : has = [] := List.length_eq_zero_iff.1 h0
                    have d4 : decide ((0 : Int) < (has.length : Int)) = false := decide_eq_false (by omega)
                    have hjj := HJ.out
                    rw [h00] at hjj
                    obtain ⟨hL, hlen, hall⟩ := hjj.done
                    have HOrd := hide hjj.ord
                    have HNdH := hide hjj.ndH
                    have HAll := hide hall
                    have n1 : ((L.length : Int) != 0) = false := by rw [hL]; rfl
                    have n2 : ((H.length : Int) != ((Ws G).length : Int)) = false := by rw [hlen, HLl.out, HWl.out]; simp
                    have HLen := hide (len_c HE.out.lw.lk)
                    clear hjj hL hlen hall h00 h0 HJ HHc hha hqL hhl hHl hhf hhm
                    go_wp2_with fail
                    refine HLen.out.mono ?_
                    rintro e w6 ⟨rfl, rfl⟩
                    clear HLen
                    go_wp2_with fail
                    go_loopw [167] (fun j wq => ∃ k : Nat, j = .int .i64 (k : Int) ∧ k ≤ (Ws G).length ∧ E0 w2 w2.heap.size Mb sz G (.slice av (Ws G).length cv) L (.slice ah2 has.length ch2) has wq ∧ MapL Tryd.prog 3 wq Hb (hadE H)) (fun j _ => (Ws G).length - (intOf j).toNat)
                    case atStart => exact ⟨0, rfl, Nat.zero_le _, HE.out, HM.out⟩
                    case round =>
                      clear HE HM
                      obtain ⟨k, rfl, hk, hE, hM⟩ := hrel
                      have HE := hide hE
                      have HM := hide hM
                      clear hE hM
                      by_cases hlk : k < (Ws G).length
                      · have d5 : decide ((k : Int) < ((Ws G).length : Int)) = true := by simpa using hlk
                        have i5 : (0 : Int) ≤ (k : Int) := by omega
                        have i6 : (k : Int) < ((Ws G).length : Int) := by omega
                        have i7 : (k : Int) ≤ ((Ws G).length : Int) := by omega
                        have hexg : ∃ gk, G[k]? = some gk := ⟨G[k]'(by rw [← HWl.out]; exact hlk), List.getElem?_eq_getElem (by rw [← HWl.out]; exact hlk)⟩
                        obtain ⟨gk, hgk⟩ := hexg
                        have hzk : (Ws G)[k]? = some gk.x.1 := by unfold Ws; rw [List.getElem?_map, hgk]; rfl
                        obtain ⟨av2, cv2, gv2, hv2, hca, hcb, hav2, hcv2⟩ := HE.out.ord.form
                        injection hv2 with z1 z2 z3
                        subst z1 z3
                        obtain rfl := hav2 (by omega)
                        have cz := hcv2 k _ hzk
                        have HGk := hide hgk
                        have hexp := List.getElem?_of_mem (HAll.out gk.x (by unfold Ls; exact List.mem_map_of_mem (List.mem_of_getElem? hgk)))
                        obtain ⟨pk, hpk⟩ := hexp
                        have HPk := hide hpk
                        obtain ⟨k1, hk1⟩ : ∃ k1, k1 = gk.x.1 := ⟨_, rfl⟩
                        have Hk1 := hide hk1
                        rw [← hk1] at cz
                        clear hcv2 hav2 hzk hgk hk1 hpk
                        go_wp2_with fail
                        clear cz
                        go_loopw [176] (fun j wq => ∃ q : Nat, j = .int .i64 (q : Int) ∧ q ≤ k ∧ E0 w2 w2.heap.size Mb sz G (.slice (some ⟨gv2, 0, none⟩) (Ws G).length cv) L (.slice ah2 has.length ch2) has wq ∧ MapL Tryd.prog 3 wq Hb (hadE H)) (fun j _ => k - (intOf j).toNat)
                        case atStart => exact ⟨0, rfl, Nat.zero_le _, HE.out, HM.out⟩
                        case round =>
                          clear HE HM
                          obtain ⟨q2, rfl, hq2, hE, hM⟩ := hrel
                          have HE := hide hE
                          have HM := hide hM
                          clear hE hM
                          by_cases hlq : q2 < k
                          · have d6 : decide ((q2 : Int) < (k : Int)) = true := by simpa using hlq
                            have j1 : (0 : Int) ≤ (q2 : Int) := by omega
                            have j2 : (q2 : Int) < (k : Int) := by omega
                            have hexg : ∃ gq, G[q2]? = some gq := ⟨G[q2]'(by rw [← HWl.out]; omega), List.getElem?_eq_getElem (by rw [← HWl.out]; omega)⟩
                            obtain ⟨gq, hgq⟩ := hexg
                            have hzq : (Ws G)[q2]? = some gq.x.1 := by unfold Ws; rw [List.getElem?_map, hgq]; rfl
                            obtain ⟨av3, cv3, gv3, hv3, hcc, hcd, hav3, hcv3⟩ := HE.out.ord.form
                            injection hv3 with y1 y2 y3
                            have y4 := hav3 (by omega)
                            rw [y4] at y1
                            injection y1 with y1
                            injection y1 with y1
                            subst y1 y3
                            have cz := hcv3 q2 _ hzq
                            have hexp := List.getElem?_of_mem (HAll.out gq.x (by unfold Ls; exact List.mem_map_of_mem (List.mem_of_getElem? hgq)))
                            obtain ⟨pq, hpq⟩ := hexp
                            have HGq := hide hgq
                            have hOk1 := HTx.out gk (List.mem_of_getElem? HGk.out)
                            have hOk2 := HTx.out gq (List.mem_of_getElem? hgq)
                            have hr1 := HE.out.look HTx.out (List.mem_of_getElem? HGk.out)
                            have hr2 := HE.out.look HTx.out (List.mem_of_getElem? hgq)
                            have hr3 := had_look HM.out hOk1.wf HPk.out
                            have hr4 := had_look HM.out hOk2.wf hpq
                            have hbw := HB2.out.trans (HE.out.lw.below.mono HB2.out.size)
                            have hcm := common_c gk.a gq.a gk.m gk.c gq.m gq.c gk.T gq.T _ (hOk1.src.below hbw) hOk1.len hOk1.cap hOk1.max (hOk2.src.below hbw) hOk2.len hOk2.cap hOk2.max
                            obtain ⟨b, hb⟩ : ∃ b, b = way gk.T gq.T := ⟨_, rfl⟩
                            rw [← hb] at hcm
                            have hlt : b = true → pq < pk := fun h => by
                              rw [h, way_mem hOk1.mem hOk2.mem] at hb
                              have hGq := HGq.out
                              obtain ⟨q', hq', hqe⟩ := HOrd.out k q2 gk.x gq.x (by unfold Ls; rw [List.getElem?_map, HGk.out]; rfl) (by unfold Ls; rw [List.getElem?_map, hGq]; rfl) hlq hb.symm pk HPk.out
                              have hnd := HNdH.out
                              have h1 := (List.getElem?_eq_some_iff.1 hqe)
                              obtain ⟨h1, h2⟩ := h1
                              obtain ⟨h3, h4⟩ := List.getElem?_eq_some_iff.1 hpq
                              rcases Nat.lt_trichotomy q' pq with h5 | h5 | h5
                              · exact absurd (h2.trans h4.symm) (List.pairwise_iff_getElem.1 hnd q' pq h1 h3 h5)
                              · omega
                              · exact absurd (h4.trans h2.symm) (List.pairwise_iff_getElem.1 hnd pq q' h3 h1 h5)
                            have HLt := hide hlt
                            have HCm := hide hcm
                            obtain ⟨q1, hq1⟩ : ∃ q1, q1 = gq.x.1 := ⟨_, rfl⟩
                            rw [← Hk1.out] at hr1 hr3
                            rw [← hq1] at hr2 hr4 cz
                            clear hcv3 hav3 hzq hgq y2 y4 hOk1 hOk2 hbw hcm hb hlt hpq hq1
                            go_wp2_with fail
                            refine HCm.out.mono ?_
                            rintro e w12 ⟨rfl, rfl⟩
                            clear HCm hr1 hr2 cz
                            cases b with
                            | false =>
                              go_wp2
                              go_roundw
                              case rel => exact ⟨q2 + 1, by go_num, by omega, HE.out, HM.out⟩
                              case measure => simp [intOf]; omega
                            | true =>
                              have hlt := HLt.out rfl
                              have d7 : decide ((pk : Int) + 1 ≤ (pq : Int) + 1) = false := decide_eq_false (by omega)
                              have d8 : decide ((pk : Int) ≤ (pq : Int)) = false := decide_eq_false (by omega)
                              have d9 : decide (pk ≤ pq) = false := decide_eq_false (by omega)
                              clear hlt HLt
                              go_wp2
                              go_roundw
                              case rel => exact ⟨q2 + 1, by go_num, by omega, HE.out, HM.out⟩
                              case measure => simp [intOf]; omega
                          · obtain rfl : q2 = k := by omega
                            have d6 : decide ((q2 : Int) < (q2 : Int)) = false := by simp
                            go_wp2
                            go_roundw
                            case rel => exact ⟨q2 + 1, by go_num, by omega, HE.out, HM.out⟩
                            case measure => simp [intOf]; omega
                      · obtain rfl : k = (Ws G).length := by omega
                        have d5 : decide (((Ws G).length : Int) < ((Ws G).length : Int)) = false := by simp
                        have HBe := hide (HB2.out.trans (HE.out.lw.below.mono HB2.out.size))
                        go_wp2
                        go_ret
                        exact ⟨rfl, HBe.out⟩
end Go.Proofs.YtlhjkacdhfchiaaDoor.LockEndsW
