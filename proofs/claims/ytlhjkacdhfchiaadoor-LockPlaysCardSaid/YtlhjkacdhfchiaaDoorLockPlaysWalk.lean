/- LockPlays' walk. -/
import Derived.Test.YtlhjkacdhfchiaaDoorNg
import Derived.Test.YtlhjkacdhfchiaaDoorLz
import Derived.Deep.CutBlock
import Derived.Deep.DeepCutAuto
namespace Go.Proofs.YtlhjkacdhfchiaaDoor.LockPlaysW
set_option linter.unusedVariables false
set_option linter.unusedSimpArgs false
set_option maxRecDepth 100000
open Go.ChangeShapes Go.WideShapes Go.ChangeAt Go.RowKit
open Go.Proofs.YtlhjkacdhfchiaaDoor.Wu Go.Proofs.YtlhjkacdhfchiaaDoor.Rk Go.Proofs.YtlhjkacdhfchiaaDoor.Pm Go.Proofs.YtlhjkacdhfchiaaDoor.Pd Go.Proofs.YtlhjkacdhfchiaaDoor.Ps Go.Proofs.YtlhjkacdhfchiaaDoor.Pu Go.Proofs.YtlhjkacdhfchiaaDoor.Pv Go.Proofs.YtlhjkacdhfchiaaDoor.Px Go.Proofs.YtlhjkacdhfchiaaDoor.Pk Go.Proofs.YtlhjkacdhfchiaaDoor.La Go.Proofs.YtlhjkacdhfchiaaDoor.Lb Go.Proofs.YtlhjkacdhfchiaaDoor.Lc Go.Proofs.YtlhjkacdhfchiaaDoor.Le Go.Proofs.YtlhjkacdhfchiaaDoor.Lg Go.Proofs.YtlhjkacdhfchiaaDoor.Lh Go.Proofs.YtlhjkacdhfchiaaDoor.Li Go.Proofs.YtlhjkacdhfchiaaDoor.Lk Go.Proofs.YtlhjkacdhfchiaaDoor.Lm Go.Proofs.YtlhjkacdhfchiaaDoor.Lo Go.Proofs.YtlhjkacdhfchiaaDoor.Lr Go.Proofs.YtlhjkacdhfchiaaDoor.Lt Go.Proofs.YtlhjkacdhfchiaaDoor.Lu Go.Proofs.YtlhjkacdhfchiaaDoor.Lv Go.Proofs.YtlhjkacdhfchiaaDoor.Lx Go.Proofs.YtlhjkacdhfchiaaDoor.Lz Go.Proofs.YtlhjkacdhfchiaaDoor.Na Go.Proofs.YtlhjkacdhfchiaaDoor.Nb Go.Proofs.YtlhjkacdhfchiaaDoor.Nc Go.Proofs.YtlhjkacdhfchiaaDoor.Nd Go.Proofs.YtlhjkacdhfchiaaDoor.Nf Go.Proofs.YtlhjkacdhfchiaaDoor.Ng
open Go.Proofs.YtlhjkacdhfchiaaDoor.Ba (of_hid)
open Go.Proofs.YtlhjkacdhfchiaaDoor.Er (Et)
open Go.Proofs.YtlhjkacdhfchiaaDoor.Eu (RetB)
attribute [local go_sem] kUpon_value kUpon_skip kUpon_enter
set_option maxHeartbeats 12800000 in
theorem walk (a : Option Addr) (m c : Nat) (l : List OpL) (s : ByteArray) (ask : List UInt8) (hs : s = bs ask) (w : World) (hl : l.length = m) (hmc : m ≤ 9223372036854775807) (g off : Nat) (ha : 0 < m → a = some ⟨g, off, none⟩)
    (hcell : ∀ i o, l[i]? = some o → (∀ j u, (opC o)[j]? = some u → w.cell? ⟨g, off + i * 3 + j, none⟩ = some u) ∧ OkL w o) (he : Et w) :
    Calls Tryd.prog 4 #[.slice a m c, .string s] w fun e w' => e = .returned (.bool true) ∧ Below w.heap.size w w' := by
  have HE := hide (fun (u : World) (hu : Below w.heap.size w u) => he.below hu (Nat.le_refl _))
  have HAsk := hide hs
  have HH := hide (locks_c w)
  have HF := hide (fun (u : World) (hu : Below w.heap.size w u) => fits_c a m c l u hl hmc g off ha (fun i o hi => ⟨fun j x hx => keepC hu (Nat.le_refl _) ((hcell i o hi).1 j x hx), (hcell i o hi).2.below hu⟩))
  have HC := hide hcell
  have Hl := hide hl
  clear hcell hl he hs
  go_enter Tryd.func4, Tryd.ntmps4
  go_wp2_with fail
  refine HH.out.mono ?_
  rintro e w1 ⟨rfl, hb⟩
  have HB := hide hb
  clear hb HH
  go_wp2_with fail
  refine (HF.out w1 HB.out).mono ?_
  rintro e w2 ⟨b, rfl, hfit, hb⟩
  have HB2 := hide (keepB hb (Nat.le_refl _) HB.out)
  clear hb HF HB
  cases b with
  | false =>
    go_wp2
    go_ret
    exact ⟨rfl, HB2.out⟩
  | true =>
    obtain ⟨h90, hsm⟩ := hfit rfl
    have HSm := hide hsm
    clear hfit hsm
    by_cases h100 : 100 < s.size
    · have d1 : decide ((100 : Int) < (s.size : Int)) = true := decide_eq_true (by omega)
      have d2 : decide (100 < s.size) = true := decide_eq_true h100
      go_wp2
      go_ret
      exact ⟨rfl, HB2.out⟩
    · have d1 : decide ((100 : Int) < (s.size : Int)) = false := decide_eq_false (by omega)
      have d2 : decide (100 < s.size) = false := decide_eq_false h100
      have HN := hide (new_w (Below.refl w2.heap.size w2))
      clear h100
      go_wp2_with fail
      refine HN.out.mono ?_
      rintro e w3 ⟨rfl, h3⟩
      have HS3 : Hid (PS w2 w2.heap.size (.slice none 0 0) [] w3) := hide ⟨h3, RkW.nil _ _, List.Pairwise.nil, by simp⟩
      clear h3 HN d1 d2
      go_wp2_with fail
      go_loopw [6, 32] (fun v j wr => ∃ (i : Nat) (L : List Wh), j = .int .i64 (i : Int) ∧ i ≤ m ∧ PS w2 w2.heap.size v L wr) (fun _ j _ => m - (intOf j).toNat)
      case atStart => exact ⟨0, [], rfl, Nat.zero_le _, HS3.out⟩
      case round =>
        clear HS3
        obtain ⟨i, L, rfl, hi, hS⟩ := hrel
        obtain ⟨us0, hA0⟩ := hS.rk
        obtain ⟨av, cv, hv, -, -, -⟩ := hA0.own.is
        subst hv
        obtain ⟨n, hn⟩ : ∃ n, n = us0.length := ⟨_, rfl⟩
        rw [← hn] at hS ⊢
        have HS := hide hS
        clear hS hA0 hn
        by_cases hlt : i < m
        · have d1 : decide ((i : Int) < (m : Int)) = true := by simpa using hlt
          have i1 : (0 : Int) ≤ (i : Int) := by omega
          have i2 : (i : Int) < (m : Int) := by omega
          have hex : ∃ o, l[i]? = some o := ⟨l[i]'(by rw [Hl.out]; exact hlt), List.getElem?_eq_getElem (by rw [Hl.out]; exact hlt)⟩
          obtain ⟨o, hio⟩ := hex
          have hsmall := HSm.out o (List.mem_of_getElem? hio)
          obtain ⟨hoc, hok⟩ := HC.out i _ hio
          obtain rfl := ha (by omega)
          have hbw := HB2.out.trans (HS.out.lw.below.mono HB2.out.size)
          have o0 := keepC hbw (Nat.le_refl _) (hoc 0 _ rfl)
          have o1 := keepC hbw (Nat.le_refl _) (hoc 1 _ rfl)
          have o2 := keepC hbw (Nat.le_refl _) (hoc 2 _ rfl)
          rw [Nat.add_zero] at o0
          have HOk := hide hok
          have Hsmall := hide hsmall
          clear hoc hok hio hsmall hbw
          obtain ⟨kd, who, oa, om, oc, T⟩ := o
          simp only at o0 o1 o2
          have HS5 := hide (HS.out.up (below_new wr (.cells #[.int .i64 kd, .int .i64 who, .slice oa om oc] 54)))
          have HO5 := hide (heap_last wr (.cells #[.int .i64 kd, .int .i64 who, .slice oa om oc] 54))
          clear HS
          have hTl : T.length = om := HOk.out.len
          have HTl := hide hTl
          clear hTl
          cases hk0 : (kd == 0) with
          | true =>
            have HPut := hide (fun (u : World) (hu : PS w2 w2.heap.size (.slice av n cv) L u) (hsr : SrcS u oa T) => rput_c hu.rk hu.lw.size who oa oc T hsr (by rw [HTl.out]; exact HOk.out.cap) HOk.out.max (fun p hp => Nat.le_trans (Hsmall.out.2 p hp) (by omega)))
            have HAk := hide (fun (u : World) (hu : Lw w2 w2.heap.size w2.heap.size L u) (hsr : SrcS u oa T) => ask_c hu.lk who oa oc T hsr (by rw [HTl.out]; exact HOk.out.cap) HOk.out.max HOk.out.txt hu.size)
            rw [HTl.out] at HPut HAk
            have HSrc : Hid (∀ u, Below w2.heap.size w2 u → SrcS u oa T) := hide (fun u hu => HOk.out.src.below (HB2.out.trans (hu.mono HB2.out.size)))
            go_wp2_with fail
            generalize wr.alloc (.cells #[.int .i64 kd, .int .i64 who, .slice oa om oc] 54) = w5 at *
            generalize wr.heap.size = Bo at *
            clear o0 o1 o2
            have HP5 := hide (HPut.out w5 HS5.out (HSrc.out _ HS5.out.lw.below))
            have hPutR := HP5.out
            cases hr : askF L who T with
            | inl t =>
              obtain ⟨L', b⟩ := t
              rw [hr] at hPutR
              have HPu := hide hPutR
              have Honce := hide (once_put HS5.out.once hr)
              have Hfree := hide (put_free hr)
              have HAk2 := hide (fun (u : World) (hu : Lw w2 w2.heap.size w2.heap.size L u) (hsr : SrcS u oa T) => ask_k hu who oa om oc T hsr HOk.out.len HOk.out.cap HOk.out.max HOk.out.txt hr)
              clear hPutR hr HAk HPut HP5
              refine HPu.out.mono ?_
              rintro e w6 ⟨⟨v6, rfl, hrk⟩, hb⟩
              obtain ⟨us6, hA6⟩ := hrk
              obtain ⟨av6, cv6, hv6, -, -, -⟩ := hA6.own.is
              subst hv6
              have hlen6 : us6.length = L.length + 1 := by rw [hA6.len]; exact Hfree.out.2
              rw [hlen6] at hA6 ⊢
              have hfew6 := hA6.few
              have hrk6 : RkW w6 w2.heap.size (.slice av6 (L.length + 1) cv6) L' := ⟨us6, hA6⟩
              have HR6 := hide hrk6
              have HF6 := hide hfew6
              have HL6 := hide (HS5.out.lw.up hb)
              have HO6 := hide (below_blk hb (heap_lt HO5.out) HO5.out)
              obtain ⟨n0, hn0⟩ : ∃ n0, n0 = L.length := ⟨_, rfl⟩
              have Hn0 := hide hn0
              have hn64 : n0 ≤ 64 := by rw [hn0]; exact HS5.out.few
              rw [← hn0] at HR6 ⊢
              have q1 := blk_cell (i := 1) HO6.out rfl
              have q2 := blk_cell (i := 2) HO6.out rfl
              clear hb hA6 hlen6 hrk6 hfew6 hn0 HPu HS5 HO5
              go_wp2_with fail
              refine (HAk2.out w6 HL6.out (HSrc.out _ HL6.out.below)).mono ?_
              rintro e w7 ⟨rfl, h7, hk7⟩
              have HS7 : Hid (PS w2 w2.heap.size (.slice av6 (n0 + 1) cv6) L' w7) := hide ⟨h7, RkW.kp HR6.out hk7, Honce.out, HF6.out⟩
              have HNu := hide (nil_num (HE.out w7 (HB2.out.trans (h7.below.mono HB2.out.size))))
              clear h7 hk7 HL6 HR6 HO6 q1 q2 HAk2
              go_wp2_with fail
              refine HNu.out.mono ?_
              rintro e w8 ⟨rfl, hb⟩
              have HS8 := hide (HS7.out.up hb)
              have HHs := hide (rhas_l HS8.out.rk (i := n0) (by rw [Hfree.out.2, Hn0.out]; omega))
              rw [Hn0.out, ← Hfree.out.1, ← Hn0.out] at HHs
              have hwx : IntKind.i64.wrap (n0 : Int) = (n0 : Int) := IntWalk.i64_in _ (by omega)
              have hwx2 : IntKind.i64.wrap ((n0 : Int) + 1 - 1) = (n0 : Int) := by rw [Int.add_sub_cancel]; exact hwx
              have hbb : (b != b) = false := by simp
              clear hb HNu HS7
              go_wp2_with fail
              refine HHs.out.mono ?_
              rintro e w9 ⟨rfl, hb⟩
              have HS9 := hide (HS8.out.up hb)
              have HLk := hide (like_c HS9.out.bo HS9.out.once HS9.out.few ask)
              rw [← HAsk.out] at HLk
              clear hb HHs HS8
              go_wp2_with fail
              refine HLk.out.mono ?_
              rintro e w10 ⟨rfl, hb⟩
              have HS10 := hide (HS9.out.up hb)
              clear hb HLk HS9
              go_wp2
              go_roundw
              case rel => exact ⟨i + 1, L', by go_num, by omega, HS10.out⟩
              case measure => simp [intOf]; omega
            | inr cE =>
              rw [hr] at hPutR
              have HPu := hide hPutR
              have HAk2 := hide (fun (u : World) (hu : Lw w2 w2.heap.size w2.heap.size L u) (hsr : SrcS u oa T) => by
                have := HAk.out u hu hsr
                rw [hr] at this
                exact this)
              clear hPutR hr HAk HPut HP5
              refine HPu.out.mono ?_
              rintro e w6 ⟨⟨rfl, hcE⟩, hb⟩
              have HS6 := hide (HS5.out.up hb)
              have HO6 := hide (below_blk hb (heap_lt HO5.out) HO5.out)
              have q1 := blk_cell (i := 1) HO6.out rfl
              have q2 := blk_cell (i := 2) HO6.out rfl
              have n1 : (cE != 0) = true := by simpa using hcE
              have n2 : (cE == 0) = false := by simpa using hcE
              have n3 : (cE != cE) = false := by simp
              clear hb HPu HS5 HO5 hcE
              go_wp2_with fail
              refine (HAk2.out w6 HS6.out.lw (HSrc.out _ HS6.out.lw.below)).mono ?_
              rintro e w7 ⟨v, rfl, hv, hb⟩
              have HS7 := hide (HS6.out.up hb)
              have HNu := hide (err_num hv (HE.out w7 (HB2.out.trans (HS7.out.lw.below.mono HB2.out.size))))
              obtain ⟨Ty, x, rfl⟩ := errv_shape hv
              clear hb hv HS6 HO6 q1 q2 HAk2
              go_wp2_with fail
              refine HNu.out.mono ?_
              rintro e w8 ⟨rfl, hb⟩
              have HS8 := hide (HS7.out.up hb)
              have HLk := hide (like_c HS8.out.bo HS8.out.once HS8.out.few ask)
              rw [← HAsk.out] at HLk
              clear hb HNu HS7
              go_wp2_with fail
              refine HLk.out.mono ?_
              rintro e w10 ⟨rfl, hb⟩
              have HS10 := hide (HS8.out.up hb)
              clear hb HLk HS8
              go_wp2
              go_roundw
              case rel => exact ⟨i + 1, L, by go_num, by omega, HS10.out⟩
              case measure => simp [intOf]; omega
          | false =>
            go_wp2_with fail
            generalize wr.alloc (.cells #[.int .i64 kd, .int .i64 who, .slice oa om oc] 54) = w5 at *
            generalize wr.heap.size = Bo at *
            clear o0 o1 o2
            have hRel := rrel_c HS5.out.rk HS5.out.lw.size HS5.out.once who
            have hRk := fun (u : World) (hu : Lw w2 w2.heap.size w2.heap.size L u) => Ng.rel_k hu who
            cases hf : L.findIdx? (whoIs who) with
            | none =>
              unfold RRelR at hRel
              rw [hf] at hRel hRk
              have HRel := hide hRel
              have HRk := hide hRk
              clear hRel hRk hf
              refine HRel.out.mono ?_
              rintro e w6 ⟨rfl, hb⟩
              have HS6 := hide (HS5.out.up hb)
              have HO6 := hide (below_blk hb (heap_lt HO5.out) HO5.out)
              have q1 := blk_cell (i := 1) HO6.out rfl
              clear hb HRel HS5 HO5
              go_wp2_with fail
              refine (HRk.out w6 HS6.out.lw).mono ?_
              rintro e w7 ⟨rfl, hb⟩
              have HS7 := hide (HS6.out.up hb)
              have HLk := hide (like_c HS7.out.bo HS7.out.once HS7.out.few ask)
              rw [← HAsk.out] at HLk
              clear hb HS6 HO6 q1 HRk
              go_wp2_with fail
              go_loopw [110] (fun j wq => j = .int .i64 0 ∧ wq = w7) (fun _ _ => 0)
              case atStart => exact ⟨rfl, rfl⟩
              case round =>
                obtain ⟨rfl, rfl⟩ := hrel
                go_wp2_with fail
                refine HLk.out.mono ?_
                rintro e w10 ⟨rfl, hb⟩
                have HS10 := hide (HS7.out.up hb)
                clear hb HLk HS7
                go_wp2
                go_roundw
                case rel => exact ⟨i + 1, L, by go_num, by omega, HS10.out⟩
                case measure => simp [intOf]; omega
            | some ix =>
              unfold RRelR at hRel
              rw [hf] at hRel hRk
              have HRel := hide hRel
              have HRk := hide hRk
              clear hRel hRk hf
              refine HRel.out.mono ?_
              rintro e w6 ⟨⟨v6, n6, x, hx, rfl, hrk, hon⟩, hb⟩
              obtain ⟨us6, hA6⟩ := hrk
              obtain ⟨av6, cv6, hv6, -, -, -⟩ := hA6.own.is
              subst hv6
              have hfew6 := hA6.few
              obtain ⟨n0, hn0⟩ : ∃ n0, n0 = us6.length := ⟨_, rfl⟩
              have hrk6 : RkW w6 w2.heap.size (.slice av6 us6.length cv6) (cut L ix) := ⟨us6, hA6⟩
              rw [← hn0] at hrk6 ⊢
              have HR6 := hide hrk6
              have HF6 := hide hfew6
              have HL6 := hide (HS5.out.lw.up hb)
              have HOn := hide (once_cut HS5.out.once ix)
              have hzl := nx_len (cut L ix) x.2 ix (L.length - 1 - ix)
              have hLf := HS5.out.few
              obtain ⟨zs, hzs⟩ : ∃ zs, zs = nx (cut L ix) x.2 ix (L.length - 1 - ix) := ⟨_, rfl⟩
              rw [← hzs] at hon hzl
              have Hzs := hide hzs
              have Hx := hide hx
              have hzb : zs.length ≤ 64 := by omega
              obtain ⟨a6, c6, g6, hn6, -, -, -, -⟩ := hon.form
              subst hn6
              have HO6 := hide (below_blk hb (heap_lt HO5.out) HO5.out)
              have HN6 := hide hon
              have q1 := blk_cell (i := 1) HO6.out rfl
              clear hb HRel HS5 HO5 hA6 hfew6 hrk6 hon hzs hx hn0 hzl hLf
              go_wp2_with fail
              refine (HRk.out w6 HL6.out).mono ?_
              rintro e w7 ⟨v7, x2, hx2, rfl, hon7, h7, hk7, hsz7⟩
              have hxe : x2 = x := by
                have := Hx.out
                rw [hx2] at this
                injection this
              subst hxe
              rw [← Hzs.out] at hon7
              obtain ⟨a7, c7, g7, hn7, -, -, ha7, hc7⟩ := hon7.form
              subst hn7
              have HS7 : Hid (PS w2 w2.heap.size (.slice av6 n0 cv6) (cut L ix) w7) := hide ⟨h7, RkW.kp HR6.out hk7, HOn.out, HF6.out⟩
              have hon6 := kp_own HN6.out hk7
              obtain ⟨a8, c8, g8, hn8, -, -, ha8, hc8⟩ := hon6.form
              injection hn8 with x1 x2' x3
              subst x1 x3
              have HA7 := hide ha7
              have HC7 := hide hc7
              have HA8 := hide ha8
              have HC8 := hide hc8
              clear h7 hk7 hsz7 hon7 hon6 hx2 ha7 hc7 ha8 hc8 x2' HL6 HO6 HR6 HN6 q1 HRk
              go_wp2_with fail
              go_loopw [110] (fun j wq => ∃ q : Nat, j = .int .i64 (q : Int) ∧ q ≤ zs.length ∧ PS w2 w2.heap.size (.slice av6 n0 cv6) (cut L ix) wq ∧ Below w7.heap.size w7 wq) (fun j _ => zs.length - (intOf j).toNat)
              case atStart => exact ⟨0, rfl, Nat.zero_le _, HS7.out, Below.refl _ _⟩
              case round =>
                clear HS7
                obtain ⟨q, rfl, hq, hS7, hB7⟩ := hrel
                have HS7 := hide hS7
                have HB7 := hide hB7
                clear hS7 hB7
                by_cases hlq : q < zs.length
                · have d3 : decide ((q : Int) < (zs.length : Int)) = true := by simpa using hlq
                  have j1 : (0 : Int) ≤ (q : Int) := by omega
                  have j2 : (q : Int) < (zs.length : Int) := by omega
                  have hex : ∃ z, zs[q]? = some z := ⟨zs[q], List.getElem?_eq_getElem hlq⟩
                  obtain ⟨z, hz⟩ := hex
                  have ea7 := HA7.out (by omega)
                  have ea8 := HA8.out (by omega)
                  subst ea7 ea8
                  have HCz := hide (fun (u : World) (hu : Below w7.heap.size w7 u) => (⟨keepC hu (Nat.le_refl _) (HC7.out q z hz), keepC hu (Nat.le_refl _) (HC8.out q z hz)⟩ : _ ∧ _))
                  have nz : (z != z) = false := by simp
                  clear hz
                  go_wp2_with fail
                  refine wp_region_keep (fun u => Below wr.heap.size wr u) (by kernel_rfl) (by kernel_rfl) (Below.refl _ _).drew ?_
                  repeat (first
                    | (refine keep_step (v := ?_) (by rfl) (fun u K hS hK => ?_) ?_
                       rotate_left
                       · obtain ⟨f1, f2⟩ := HCz.out u (HB7.out.trans (hS.mono HB7.out.size))
                         (go_simp; (with_reducible exact hK _ hS))
                       simp only [Act.put, List.setIfInBounds_toArray, List.set_cons_zero, List.set_cons_succ]))
                  refine keep_nil (fun wA hA => ?_)
                  have HSA := hide (HS7.out.up hA)
                  have HBA := hide (HB7.out.trans (hA.mono HB7.out.size))
                  clear hA HS7 HB7
                  go_wp2
                  go_roundw
                  case rel => exact ⟨q + 1, by go_num, by omega, HSA.out, HBA.out⟩
                  case measure => simp [intOf]; omega
                · obtain rfl : q = zs.length := by omega
                  have d3 : decide ((zs.length : Int) < (zs.length : Int)) = false := by simp
                  have HLk := hide (like_c HS7.out.bo HS7.out.once HS7.out.few ask)
                  rw [← HAsk.out] at HLk
                  go_wp2_with fail
                  refine HLk.out.mono ?_
                  rintro e w10 ⟨rfl, hb⟩
                  have HS10 := hide (HS7.out.up hb)
                  clear hb HLk HS7
                  go_wp2
                  go_roundw
                  case rel => exact ⟨i + 1, cut L ix, by go_num, by omega, HS10.out⟩
                  case measure => simp [intOf]; omega
        · obtain rfl : i = m := by omega
          have d1 : decide ((i : Int) < (i : Int)) = false := by simp
          have HBe := hide (HB2.out.trans (HS.out.lw.below.mono HB2.out.size))
          go_wp2
          go_ret
          exact ⟨rfl, HBe.out⟩
end Go.Proofs.YtlhjkacdhfchiaaDoor.LockPlaysW
