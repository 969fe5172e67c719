/- The feed's Add: the walk. -/
import Derived.Test.YtpaijhmbfljfmaaDoorGe
namespace Go.Proofs.YtpaijhmbfljfmaaDoor.Gf
set_option linter.unusedVariables false
set_option linter.unusedSimpArgs false
set_option maxRecDepth 100000
open Go.ChangeShapes Go.WideShapes Go.ChangeAt Go.RowKit
open Go.Proofs.YtpaijhmbfljfmaaDoor.Wu Go.Proofs.YtpaijhmbfljfmaaDoor.Sm Go.Proofs.YtpaijhmbfljfmaaDoor.Sh Go.Proofs.YtpaijhmbfljfmaaDoor.Ba Go.Proofs.YtpaijhmbfljfmaaDoor.Bp Go.Proofs.YtpaijhmbfljfmaaDoor.Bq Go.Proofs.YtpaijhmbfljfmaaDoor.Er Go.Proofs.YtpaijhmbfljfmaaDoor.Eu Go.Proofs.YtpaijhmbfljfmaaDoor.Ei Go.Proofs.YtpaijhmbfljfmaaDoor.Cv Go.Proofs.YtpaijhmbfljfmaaDoor.Cw Go.Proofs.YtpaijhmbfljfmaaDoor.Rk Go.Proofs.YtpaijhmbfljfmaaDoor.Fh Go.Proofs.YtpaijhmbfljfmaaDoor.Fi Go.Proofs.YtpaijhmbfljfmaaDoor.Ga Go.Proofs.YtpaijhmbfljfmaaDoor.Gb Go.Proofs.YtpaijhmbfljfmaaDoor.Gc Go.Proofs.YtpaijhmbfljfmaaDoor.Gd Go.Proofs.YtpaijhmbfljfmaaDoor.Ge
attribute [local go_sem] kUpon_value kUpon_skip kUpon_enter
theorem _root_.Go.Proofs.YtpaijhmbfljfmaaDoor.Ba.SrcB.same {w w' : World} {a : Option Addr} {m : Nat} {L : List Nat} (h : SrcB w a m L) (hk : ∀ ad, a = some ad → w'.heap[ad.block]? = w.heap[ad.block]?) : SrcB w' a m L := by
  obtain ⟨hl, h8, b, off, ha, hc⟩ := h
  refine ⟨hl, h8, b, off, ha, fun i hi => ?_⟩
  have e := hk _ (ha (by omega))
  rw [World.cell?_of_block (a := ⟨b, off + i, none⟩) e]
  exact hc i hi
theorem Inv.step {w w4 w5 : World} {F : Nat} {v0 v1 : Value} {N : Nat} {s : FS} {L : List Nat} {fs : List Fr} {z k ss hh n : Nat} {list list' : Value} {ra : Option Addr} {rc : Nat} (h : Inv w F v0 v1 N s L fs z list ra rc w4) (hR : readR (L.drop z) = .ok k ss hh n)
    (hfr : Frs w5 list' (fun g => w.heap.size ≤ g ∧ some g ≠ v1.ownBlock) (fs ++ [⟨k, ss, ((L.drop z).drop hh).take n⟩])) (hg : w4.grownBy w5 list.ownBlock) (hlist : ∀ g, list.ownBlock = some g → w.heap.size ≤ g ∧ some g ≠ v1.ownBlock) (hNw : N ≤ w.heap.size) :
    Inv w F v0 v1 N s L (fs ++ [⟨k, ss, ((L.drop z).drop hh).take n⟩]) (z + (hh + n)) list' (if rc = hh + n then ra else ra.map (·.add (hh + n))) (rc - (hh + n)) (w5.setCell ⟨F, 1, none⟩ (.int .i64 ((s.read + (z + (hh + n)) : Nat) : Int))) := by
  obtain ⟨hr1, hr2, hr3⟩ := readR_app_ok [] hR
  rw [List.length_drop] at hr2
  have hfit := h.fit
  have hF := h.F
  have hz := h.done.fits.1
  have hgF : w5.grownBy (w5.setCell ⟨F, 1, none⟩ (.int .i64 ((s.read + (z + (hh + n)) : Nat) : Int))) (some F) := grown_setCell (World.grownBy.refl _ _) 1 _
  have hblk : ∀ g, some g = v1.ownBlock → (w5.setCell ⟨F, 1, none⟩ (.int .i64 ((s.read + (z + (hh + n)) : Nat) : Int))).heap[g]? = w4.heap[g]? := by
    intro g hg1
    have hlt := (Buf.own h.buf g hg1.symm).2
    have h1 := hg.block g hlt (fun e => (hlist g e.symm).2 hg1)
    rw [hgF.block g (Nat.lt_of_lt_of_le hlt hg.size) (fun e => h.apart (by rw [← hg1]; exact e)), h1]
  have hFw : F < w4.heap.size := heap_lt h.cells
  have hcell5 : Fc4 w5 F v1 (s.read + z) s.fa 0 := (hg.block F hFw (fun e => by have := (hlist F e.symm).1; omega)).trans h.cells
  refine ⟨.snoc h.done hR, by omega, ?_, ?_, ?_, ?_, ?_, h.apart, ?_, ?_, h.F⟩
  · by_cases hc : rc = hh + n
    · rw [if_pos hc]
      have e : L.drop (z + (hh + n)) = [] := List.drop_eq_nil_of_le (by omega)
      rw [e, show L.length - (z + (hh + n)) = 0 by omega]
      exact SrcB.nil _ _
    · rw [if_neg hc]
      have h1 := src_mid (h.src.same (w' := w5.setCell ⟨F, 1, none⟩ (.int .i64 ((s.read + (z + (hh + n)) : Nat) : Int))) (fun ad e => hblk _ (h.own ad e))) (hh + n) (L.length - z - (hh + n)) (by omega)
      rw [List.drop_drop, List.take_of_length_le (by rw [List.length_drop]; omega)] at h1
      rw [show L.length - (z + (hh + n)) = L.length - z - (hh + n) by omega]
      exact h1
  · intro ad had
    split at had
    · exact h.own ad had
    · cases hra : ra with
      | none => rw [hra] at had; cases had
      | some a0 =>
        rw [hra] at had
        simp only [Option.map_some, Option.some.injEq] at had
        rw [← had, ← h.own a0 hra]
        unfold Addr.add
        split <;> rfl
  · intro hn
    split at hn
    · exact h.non hn
    · cases hra : ra with
      | none => exact h.non hra
      | some a0 => rw [hra] at hn; cases hn
  · exact hcell5.setRead _
  · exact Buf.same h.buf (Nat.le_trans hg.size hgF.size) (fun g hg1 => hblk g hg1.symm)
  · exact hfr.same hgF.size (fun g hg1 hl => ⟨hg1, hgF.block g hl (fun e => by injection e with e; have := hg1.1; omega)⟩)
  · refine (h.kept.grown hg (fun k hk => .inr (.inr (hlist k hk).1))).grown hgF (fun k hk => .inl (by injection hk with hk; exact hk.symm))
theorem Frs.own {w : World} {v : Value} {ok : Nat → Prop} {fs : List Fr} (h : Frs w v ok fs) : ∀ g, v.ownBlock = some g → ok g ∧ g < w.heap.size := by
  obtain ⟨xs, ho, h0, h3⟩ := h
  intro g hg
  exact ⟨h0 g hg, (ho.lt g hg).2⟩
set_option maxHeartbeats 3200000 in
theorem add_ok (w : World) (F : Nat) (v : Value) (N : Nat) (s : FS) (a : Option Addr) (m c : Nat) (B : List Nat) (h : FeedAt w F v N s) (hfe : s.fe = 0) (hs : SrcB w a m B) (ha : a = none → m = 0) (hN : N ≤ w.heap.size) (hNF : N ≤ F) (he : ∀ u, Below N w u → Et u) (hlen : s.held.length + B.length ≤ 1000000) (hr : s.read ≤ 1000000000) :
    Calls Tryd.prog 22 #[.pointer (some ⟨F, 0, none⟩), .slice a m c] w (AddP w F v N s B) := by
  have hBr := broken_c h.cells
  rw [hfe] at hBr
  have HBr := hide hBr
  have hcl := h.cells
  rw [hfe] at hcl
  have HF := hide hcl
  have HBf := hide h.buf
  have HAp := hide h.apart
  have HS := hide hs
  have HE := hide he
  have Hfe := hide hfe
  have hBl := hs.1
  have hFw : F < w.heap.size := h.lt
  have hAp2 := h.apart
  have hown := Buf.own h.buf
  clear h hs he hfe hBr hcl
  obtain ⟨c0, c1, c2, c3⟩ := HF.out.cells
  go_enter Tryd.func22, Tryd.ntmps22
  go_wp2_with fail
  refine HBr.out.mono ?_
  rintro e w1 ⟨rfl, rfl⟩
  clear HBr
  go_wp2_with (refine wpList_append_any rfl (.tmp 16) (.tmp 17) rfl v N s.held a m c B rfl rfl HBf.out hN HS.out ha (by omega) ?_)
  intro vv w1 HB1 HG1 HO1
  refine of_hid ?_
  obtain ⟨ra1, rc1, hvv, hsrc1, hfit1, hmax1, hnil1⟩ := HB1.out.form
  obtain ⟨n1, hn1⟩ : ∃ n1, n1 = (s.held ++ B).length := ⟨_, rfl⟩
  rw [← hn1] at hvv hfit1 hnil1
  subst hvv
  have hmax2 : rc1 ≤ 9223372036854775807 := by unfold maxLen at hmax1; omega
  have Hn1 := hide hn1
  have Hnil := hide hnil1
  clear hsrc1 hn1 hnil1 hmax1
  have HF1 : Hid (Fc4 w1 F v s.read s.fa 0) := hide ((HG1.out.block F hFw (fun e => HAp.out e.symm)).trans HF.out)
  have HK1 : Hid (Kept w w1 F v.ownBlock) := hide ((Kept.refl w F v.ownBlock).grown HG1.out (fun k hk => .inr (.inl hk.symm)))
  have HA1 : Hid ((Value.slice ra1 n1 rc1).ownBlock ≠ some F) := hide (by
    rcases HO1.out with e | e
    · rw [e]; exact HAp.out
    · rw [e]; intro e; injection e with e; omega)
  have HV1 : Hid ((Value.slice ra1 n1 rc1).ownBlock = v.ownBlock ∨ ∀ g, (Value.slice ra1 n1 rc1).ownBlock = some g → w.heap.size ≤ g) := hide (by
    rcases HO1.out with e | e
    · exact .inl e
    · right; intro g hg; rw [e] at hg; injection hg with hg; omega)
  clear c0 c1 c2 c3 HF HBf HG1 HO1 HAp HS
  obtain ⟨c0, c1, c2, c3⟩ := HF1.out.cells
  have f0 := HF1.out.free 0
  have HF2 := hide (HF1.out.setHeld (Value.slice ra1 n1 rc1))
  have hg2 := grown_setCell (World.grownBy.refl w1 (some F)) 0 (Value.slice ra1 n1 rc1)
  have HB2 := hide (Buf.same HB1.out hg2.size (fun g hg => hg2.block g (Buf.own HB1.out g hg).2 (fun e => HA1.out (by rw [hg]; exact e))))
  have HK2 := hide (HK1.out.grown hg2 (fun k hk => .inl (by injection hk with hk; exact hk.symm)))
  clear hg2
  have hc2 : (w1.setCell ⟨F, 0, none⟩ (Value.slice ra1 n1 rc1)).cell? ⟨F, 0, none⟩ = some (Value.slice ra1 n1 rc1) := HF2.out.cells.1
  go_wp2_with fail
  clear c0 c1 c2 c3 f0 HF1 HK1 HB1
  obtain ⟨L, hL⟩ : ∃ L, L = s.held ++ B := ⟨_, rfl⟩
  rw [← hL] at HB2
  have hLl : L.length ≤ 1000000 := by rw [hL, List.length_append]; exact hlen
  have HL := hide hL
  clear hL
  generalize w1.setCell ⟨F, 0, none⟩ (Value.slice ra1 n1 rc1) = w2 at *
  have hsrc2 : SrcB w2 ra1 L.length L := by
    obtain ⟨ra2, rc2, hv2, hs2, -⟩ := HB2.out.form
    injection hv2 with e1 e2 e3
    rw [e1]; exact hs2
  have HnL : Hid (n1 = L.length) := by have := Hn1.out; rw [← HL.out] at this; exact this
  have HInv0 : Hid (Inv w F v (Value.slice ra1 n1 rc1) N s L [] 0 (.slice none 0 0) ra1 rc1 w2) := hide ⟨.zero, by have := HnL.out; omega, by simpa using hsrc2, fun ad e => by rw [e]; rfl, fun e => by
    have := (Hnil.out e).1
    rw [HnL.out] at this
    exact List.length_eq_zero_iff.1 this, by simpa using HF2.out, HB2.out, HA1.out, Frs.nil _ _, HK2.out, hFw⟩
  clear hsrc2 HF2 HB2 HK2 hc2
  go_loopw [5, 6] (fun list rest wr => ∃ fs z ra rc, rest = .slice ra (L.length - z) rc ∧ Inv w F v (Value.slice ra1 n1 rc1) N s L fs z list ra rc wr) (fun _ rest _ => match rest with | .slice _ n _ => n | _ => 0)
  case atStart => exact ⟨[], 0, ra1, rc1, by rw [HnL.out]; simp, HInv0.out⟩
  case round =>
    clear HInv0
    obtain ⟨fs, z, ra, rc, rfl, hi⟩ := hrel
    have HI := hide hi
    have hzl := hi.done.fits.1
    have hfl := hi.done.fits.2
    have hfit := hi.fit
    have HRd := hide (read_any ra (L.length - z) rc (L.drop z) wr hi.src hi.fit (by omega))
    clear hi
    cases hR : readR (L.drop z) with
    | bad cc pp =>
      rw [hR] at HRd
      have HR := hide hR
      have hpp := readR_bad_place hR
      rw [List.length_drop] at hpp
      clear hR
      go_wp2_with fail
      refine HRd.out.mono ?_
      rintro e w3 ⟨hb3, v3, rfl, hf3⟩
      have hb4 := below_new w3 (.cells #[.int .i64 0, .int .i64 0, .slice none 0 0] 51)
      have HI4 := hide ((HI.out.up hb3).up hb4)
      have HF4 := hide (hf3.below hb4)
      obtain ⟨b3, T3, fz3, hv3, -, -⟩ := hf3
      subst hv3
      clear HRd HI hb3 hb4
      go_wp2_with fail
      generalize w3.alloc (.cells #[.int .i64 0, .int .i64 0, .slice none 0 0] 51) = w4 at *
      by_cases hc : cc = 30
      · subst hc
        by_cases hz : z = 0
        · subst hz
          refine (stop_keep (a := ra1) (c := rc1) (m := n1) HI4.out.cells pp _ HF4.out (by have := HnL.out; omega)).mono ?_
          rintro e w5 ⟨rfl, rfl⟩
          go_wp2
          go_ret
          have hi := HI4.out
          have hR := HR.out
          rw [HL.out] at hi hR
          exact ret_keep hi Hfe.out HV1.out (by simpa using hR)
        · obtain ⟨ad, hra⟩ : ∃ ad, ra = some ad := by
            cases hra : ra with
            | none =>
              have := HI4.out.non hra
              rw [this] at hzl
              simp only [List.length_nil] at hzl
              omega
            | some ad => exact ⟨ad, rfl⟩
          subst hra
          refine (stop_cut (a := ra1) (c := rc1) (m := n1) (L := L.drop z) HI4.out.cells pp _ HF4.out (by have := HnL.out; omega) HI4.out.src (by omega)).mono ?_
          rintro e w5 ⟨rfl, g5, cap5, hc5, hg5, hd5, hG5⟩
          have hi := HI4.out
          have hR := HR.out
          have HP : Hid (AddP w F v N s B (.returned u5) w5) := hide (by
            rw [HL.out] at hi hR hd5 hc5
            exact ret_cut hi Hfe.out hR hN (by rw [List.length_drop]) hc5 hg5 hd5 hG5)
          clear hc5 hg5 hd5 hG5 hi hR
          go_wp2
          go_ret
          exact HP.out
      · refine (stop_bad HI4.out.cells cc pp _ _ HF4.out (HE.out w4 (HI4.out.kept.toBelow (Below.refl _ _) hN hNF (fun k hk => (hown k hk).1))) hc hpp.1 (by omega) (by omega)).mono ?_
        rintro e w5 ⟨rfl, hc5, hG5⟩
        have HP : Hid (AddP w F v N s B (.returned u5) w5) := hide (by
          have hi := HI4.out
          have hR := HR.out
          rw [HL.out] at hi hR
          exact ret_bad (H := []) hi Hfe.out hR hc hc5 hG5)
        clear hc5 hG5
        go_wp2
        go_ret
        exact HP.out
    | ok k ss h n =>
      rw [hR] at HRd
      have HR := hide hR
      have hrk := readR_app_ok [] hR
      have hrm := readR_max hR
      rw [List.length_drop] at hrk
      obtain ⟨-, hrk1, hrk2⟩ := hrk
      obtain ⟨ad, hra⟩ : ∃ ad, ra = some ad := by
        cases hra : ra with
        | none =>
          have := HI.out.non hra
          rw [this] at hrk1
          simp only [List.length_nil] at hrk1
          omega
        | some ad => exact ⟨ad, rfl⟩
      subst hra
      have Hsl := hide (fun u : World => slice_from u (some ad) (L.length - z) rc (h + n) (by omega))
      clear hR
      go_wp2_with fail
      refine HRd.out.mono ?_
      rintro e w3 ⟨hb3, g3, cap3, rfl, hg3, hd3⟩
      obtain ⟨q, hq⟩ : ∃ q, q = h + n := ⟨_, rfl⟩
      rw [← hq]
      have Hq := hide hq
      rw [← hq] at hrk1 Hsl
      have hq0 : 0 < q := by omega
      clear hq
      have hb4 := below_new w3 (.cells #[.int .i64 (k : Int), .int .i64 (ss : Int), .slice (some ⟨g3, 0, none⟩) n cap3] 51)
      have hb5 := below_new (w3.alloc (.cells #[.int .i64 (k : Int), .int .i64 (ss : Int), .slice (some ⟨g3, 0, none⟩) n cap3] 51)) (.cells #[.int .i64 (k : Int), .int .i64 (ss : Int), .slice (some ⟨g3, 0, none⟩) n cap3] 51)
      have HI5 := hide (((HI.out.up hb3).up hb4).up hb5)
      have HD5 := hide ((hd3.below hb4 hd3.lt).below hb5 (hd3.below hb4 hd3.lt).lt)
      have HX5 := hide (heap_last (w3.alloc (.cells #[.int .i64 (k : Int), .int .i64 (ss : Int), .slice (some ⟨g3, 0, none⟩) n cap3] 51)) (.cells #[.int .i64 (k : Int), .int .i64 (ss : Int), .slice (some ⟨g3, 0, none⟩) n cap3] 51))
      have hgw : w.heap.size ≤ g3 := Nat.le_trans HI.out.kept.size hg3
      have hgo : ∀ g, (Value.slice ra1 n1 rc1).ownBlock = some g → g < wr.heap.size := fun g hg => (Buf.own HI.out.buf g hg).2
      have hgl : ∀ g, u5.ownBlock = some g → g < wr.heap.size := fun g hg => (Frs.own HI.out.frs g hg).2
      have hlok : ∀ g, u5.ownBlock = some g → w.heap.size ≤ g ∧ some g ≠ (Value.slice ra1 n1 rc1).ownBlock := fun g hg => (Frs.own HI.out.frs g hg).1
      have hks := HI.out.kept.size
      have hws : wr.heap.size ≤ w3.heap.size := hb3.size
      have HO3 := hide (show w.heap.size ≤ g3 ∧ some g3 ≠ (Value.slice ra1 n1 rc1).ownBlock from ⟨hgw, fun e => by have := hgo g3 e.symm; omega⟩)
      have HL3 := hide (show some g3 ≠ u5.ownBlock from fun e => by have := hgl g3 e.symm; omega)
      have HLo := hide hlok
      have HNo : Hid (w.heap.size ≤ ((w3.alloc (.cells #[.int .i64 (k : Int), .int .i64 (ss : Int), .slice (some ⟨g3, 0, none⟩) n cap3] 51)).alloc (.cells #[.int .i64 (k : Int), .int .i64 (ss : Int), .slice (some ⟨g3, 0, none⟩) n cap3] 51)).heap.size ∧ some ((w3.alloc (.cells #[.int .i64 (k : Int), .int .i64 (ss : Int), .slice (some ⟨g3, 0, none⟩) n cap3] 51)).alloc (.cells #[.int .i64 (k : Int), .int .i64 (ss : Int), .slice (some ⟨g3, 0, none⟩) n cap3] 51)).heap.size ≠ (Value.slice ra1 n1 rc1).ownBlock) :=
        hide ⟨by simp only [World.size_alloc]; omega, fun e => by have := hgo _ e.symm; simp only [World.size_alloc] at this; omega⟩
      obtain ⟨D, hD⟩ : ∃ D, D = ((L.drop z).drop h).take n := ⟨_, rfl⟩
      rw [← hD] at HD5
      have HDe := hide hD
      clear HRd HI hb3 hb4 hb5 hd3 hgo hgl hlok hks hgw hg3 hD
      go_wp2_with (refine wpList_append_frs rfl (.tmp 38) (.tmp 40) rfl u5 (fun g => w.heap.size ≤ g ∧ some g ≠ (Value.slice ra1 n1 rc1).ownBlock) fs (w3.heap.size + 1) k ss n g3 cap3 D 51 (0, 0) 1 rfl rfl HI5.out.frs HNo.out (by have := HX5.out; simpa using this) HD5.out HO3.out HL3.out (by omega) ?_)
      intro u5' w5 HFr HG HOo
      refine of_hid ?_
      have hI6 := Inv.step HI5.out HR.out (by have := HFr.out; rw [HDe.out] at this; exact this) HG.out HLo.out hN
      have HI6 := hide hI6
      have hF5 : Fc4 w5 F (Value.slice ra1 n1 rc1) (s.read + z) s.fa 0 := (HG.out.block F (heap_lt HI5.out.cells) (fun e => by have := (HLo.out F e.symm).1; omega)).trans HI5.out.cells
      have HF5 := hide hF5
      clear hI6 hF5 HI5 HD5 HX5 HO3 HL3 HNo HG HOo HFr HLo
      obtain ⟨c0, c1, c2, c3⟩ := HF5.out.cells
      have f1 := HF5.out.free 1
      have hsl := Hsl.out
      obtain ⟨ra', hra'⟩ : ∃ ra', ra' = (if rc = q then some ad else (some ad).map (·.add q)) := ⟨_, rfl⟩
      rw [← Hq.out] at HI6
      rw [← hra'] at hsl HI6
      clear hra'
      obtain ⟨n0, hn0⟩ : ∃ n0, n0 = L.length - z := ⟨_, rfl⟩
      rw [← hn0] at hsl hrk1 hfit ⊢
      have hz0 : L.length - (z + q) = n0 - q := by omega
      have Hz0 := hide hz0
      have hqb : q ≤ 1000000 := by omega
      have hsz : s.read + z ≤ 1001000000 := by omega
      have Hn0 := hide hn0
      clear hn0 hz0 hrm hrk2
      go_wp2
      go_roundw
      case rel =>
        have e : (s.read : Int) + (z : Int) + (q : Int) = ((s.read + (z + q) : Nat) : Int) := by omega
        rw [e]
        exact ⟨_, z + q, ra', rc - q, by rw [Hz0.out], HI6.out⟩
      case measure => show n0 - q < L.length - z; have := Hn0.out; omega
theorem add_c (w : World) (F : Nat) (v : Value) (N : Nat) (s : FS) (a : Option Addr) (m c : Nat) (B : List Nat) (h : FeedAt w F v N s) (hs : SrcB w a m B) (ha : a = none → m = 0) (hN : N ≤ w.heap.size) (hNF : N ≤ F) (he : ∀ u, Below N w u → Et u) (hlen : s.held.length + B.length ≤ 1000000) (hr : s.read ≤ 1000000000) :
    Calls Tryd.prog 22 #[.pointer (some ⟨F, 0, none⟩), .slice a m c] w (AddP w F v N s B) := by
  by_cases hfe : s.fe = 0
  · exact add_ok w F v N s a m c B h hfe hs ha hN hNF he hlen hr
  · exact add_broken w F v N s _ B h hfe
end Go.Proofs.YtpaijhmbfljfmaaDoor.Gf
