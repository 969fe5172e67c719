/- BlockFinds' walk. -/
import Derived.Test.YtifepgigkmhdaaaDoorPh
import Derived.Test.YtifepgigkmhdaaaDoorPi
import Derived.Test.YtifepgigkmhdaaaDoorPf
namespace Go.Proofs.YtifepgigkmhdaaaDoor.BlockFindsW
set_option linter.unusedVariables false
set_option linter.unusedSimpArgs false
set_option maxRecDepth 100000
open Go.ChangeShapes Go.WideShapes Go.ChangeAt Go.RowKit
open Go.Proofs.YtifepgigkmhdaaaDoor.Wu Go.Proofs.YtifepgigkmhdaaaDoor.Sm Go.Proofs.YtifepgigkmhdaaaDoor.Sh Go.Proofs.YtifepgigkmhdaaaDoor.Ba Go.Proofs.YtifepgigkmhdaaaDoor.Bp Go.Proofs.YtifepgigkmhdaaaDoor.Bs Go.Proofs.YtifepgigkmhdaaaDoor.Ka Go.Proofs.YtifepgigkmhdaaaDoor.Kb Go.Proofs.YtifepgigkmhdaaaDoor.Kc Go.Proofs.YtifepgigkmhdaaaDoor.Kd Go.Proofs.YtifepgigkmhdaaaDoor.Ke Go.Proofs.YtifepgigkmhdaaaDoor.Kf Go.Proofs.YtifepgigkmhdaaaDoor.Rk Go.Proofs.YtifepgigkmhdaaaDoor.Rg Go.Proofs.YtifepgigkmhdaaaDoor.Rx Go.Proofs.YtifepgigkmhdaaaDoor.Rw Go.Proofs.YtifepgigkmhdaaaDoor.Kg Go.Proofs.YtifepgigkmhdaaaDoor.Kh Go.Proofs.YtifepgigkmhdaaaDoor.Kj Go.Proofs.YtifepgigkmhdaaaDoor.Kk Go.Proofs.YtifepgigkmhdaaaDoor.Kl Go.Proofs.YtifepgigkmhdaaaDoor.Kn Go.Proofs.YtifepgigkmhdaaaDoor.Ko Go.Proofs.YtifepgigkmhdaaaDoor.Kp Go.Proofs.YtifepgigkmhdaaaDoor.Kq Go.Proofs.YtifepgigkmhdaaaDoor.Kr Go.Proofs.YtifepgigkmhdaaaDoor.Kt Go.Proofs.YtifepgigkmhdaaaDoor.Ku
open Go.Proofs.YtifepgigkmhdaaaDoor.Sn (Fst fst_keep)
open Go.Proofs.YtifepgigkmhdaaaDoor.Sxa (Tbl tbl_keep)
open Go.Proofs.YtifepgigkmhdaaaDoor.Su (cutL Cnt)
attribute [local go_sem] kUpon_value kUpon_skip kUpon_enter
theorem out_walk (a a' : Option Addr) (m c m' c' : Nat) (x y : Int) (w : World) (hT : Tbl w) (hF : Fst w) (hg : 200 < m ∨ 200 < m') :
    Calls Tryd.prog 5 #[.slice a m c, .agg #[.int .i64 x, .int .i64 y], .slice a' m' c'] w fun e w' => e = .returned (.bool true) ∧ Below w.heap.size w w' := by
  have hn := below_new w (.cells #[.int .i64 x, .int .i64 y] 61)
  have HH := hide (sums_c (w.alloc (.cells #[.int .i64 x, .int .i64 y] 61)) (tbl_keep hT hn (Nat.le_refl _)) (fst_keep hF hn (Nat.le_refl _)))
  have HN := hide hn
  clear hT hF hn
  have hc : 200 < m ∨ (¬ 200 < m ∧ 200 < m') := by omega
  clear hg
  rcases hc with h1 | ⟨h1, h2⟩
  · have d1 : decide ((200 : Int) < (m : Int)) = true := by simp; omega
    have d1' : decide (200 < m) = true := by simp; omega
    clear h1
    go_enter Tryd.func5, Tryd.ntmps5
    go_wp2_with fail
    generalize (w.alloc (.cells #[.int .i64 x, .int .i64 y] 61)) = w0 at *
    refine HH.out.mono ?_
    rintro e w1 ⟨rfl, hb1⟩
    have HB1 := hide (keepB hb1 (Nat.le_refl _) HN.out)
    clear hb1
    go_wp2
    go_ret
    exact ⟨rfl, HB1.out⟩
  · have d1 : decide ((200 : Int) < (m : Int)) = false := by simp; omega
    have d1' : decide (200 < m) = false := by simp; omega
    have d2 : decide ((200 : Int) < (m' : Int)) = true := by simp; omega
    have d2' : decide (200 < m') = true := by simp; omega
    clear h1 h2
    go_enter Tryd.func5, Tryd.ntmps5
    go_wp2_with fail
    generalize (w.alloc (.cells #[.int .i64 x, .int .i64 y] 61)) = w0 at *
    refine HH.out.mono ?_
    rintro e w1 ⟨rfl, hb1⟩
    have HB1 := hide (keepB hb1 (Nat.le_refl _) HN.out)
    clear hb1
    go_wp2
    go_ret
    exact ⟨rfl, HB1.out⟩
set_option maxHeartbeats 1600000 in
theorem bad_walk (a a' : Option Addr) (m c m' c' : Nat) (x y : Int) (w : World) (hT : Tbl w) (hF : Fst w) (hm : m ≤ 200) (hm' : m' ≤ 200) (hf : fitsE x y m ≠ 0) :
    Calls Tryd.prog 5 #[.slice a m c, .agg #[.int .i64 x, .int .i64 y], .slice a' m' c'] w fun e w' => e = .returned (.bool true) ∧ Below w.heap.size w w' := by
  have hnw := below_new w (.cells #[.int .i64 x, .int .i64 y] 61)
  have HH := hide (sums_c (w.alloc (.cells #[.int .i64 x, .int .i64 y] 61)) (tbl_keep hT hnw (Nat.le_refl _)) (fst_keep hF hnw (Nat.le_refl _)))
  have HN := hide hnw
  have HP := hide (heap_last w (.cells #[.int .i64 x, .int .i64 y] 61))
  have HA := hide (fun u => make_bad a m c x y u (by omega) hf)
  obtain ⟨z, hz⟩ : ∃ z, z = fitsE x y m := ⟨_, rfl⟩
  rw [← hz] at HA
  have hz0 : z ≠ 0 := by rw [hz]; exact hf
  have e1 : (z != 0) = true := by simpa using hz0
  clear hf hT hF hnw hz hz0
  have d1 : decide ((200 : Int) < (m : Int)) = false := by simp; omega
  have d1' : decide (200 < m) = false := by simp; omega
  have d2 : decide ((200 : Int) < (m' : Int)) = false := by simp; omega
  have d2' : decide (200 < m') = false := by simp; omega
  go_enter Tryd.func5, Tryd.ntmps5
  go_wp2_with fail
  generalize (w.alloc (.cells #[.int .i64 x, .int .i64 y] 61)) = w0 at *
  refine HH.out.mono ?_
  rintro e w1 ⟨rfl, hb1⟩
  have HB1 := hide (keepB hb1 (Nat.le_refl _) HN.out)
  have HP1 := hide (below_blk hb1 (heap_lt HP.out) HP.out)
  clear hb1 HH HN HP
  have c0 : w1.cell? ⟨w.heap.size, 0, none⟩ = some (.int .i64 x) := blk_cell HP1.out rfl
  have c1 : w1.cell? ⟨w.heap.size, 1, none⟩ = some (.int .i64 y) := blk_cell HP1.out rfl
  go_wp2_with fail
  (with_reducible refine Calls.mono (HA.out w1) ?_)
  rintro e w3 ⟨rfl, hb3⟩
  have HB3 := hide (keepB hb3 (Nat.le_refl _) HB1.out)
  clear hb3 HB1 HA HP1 c0 c1
  unfold sigV
  have HB4 := hide (keepB (below_new w3 (.cells #[.int .i64 0, .int .i64 0, .int .i64 0, .slice none 0 0] 49)) (Nat.le_refl _) HB3.out)
  go_wp2
  go_ret
  exact ⟨rfl, HB4.out⟩
/-- The stages of the region that asks the reference. -/
def FT (w0 : World) (S1 : Nat) (s1 : Array Value) (sz cut len : Int) (v1 : Value) (bs : List Blk) : List Value → World → Prop
  | [], u => Below w0.heap.size w0 u ∧ u.heap[S1]? = some (.cells s1 49 (0, 0)) ∧ IsBks .u32 u v1 bs
  | [p], u => (Below w0.heap.size w0 u ∧ u.heap[S1]? = some (.cells s1 49 (0, 0)) ∧ IsBks .u32 u v1 bs) ∧ ∃ av cv, p = sigV sz cut len (.slice av bs.length cv) ∧ IsBks .i64 u (.slice av bs.length cv) bs
  | _, _ => False
section
variable {w0 : World} {S1 : Nat} {s1 : Array Value} {sz cut len : Int} {v1 : Value} {bs : List Blk}
theorem FT.up {h : List Value} {u u' : World} (H : FT w0 S1 s1 sz cut len v1 bs h u) (hb : Below u.heap.size u u') : FT w0 S1 s1 sz cut len v1 bs h u' := by
  match h, H with
  | [], ⟨h1, h2, h3⟩ => exact ⟨keepB hb (Nat.le_refl _) h1, below_blk hb (heap_lt h2) h2, h3.below hb⟩
  | [_], ⟨⟨h1, h2, h3⟩, av, cv, h6, h7⟩ => exact ⟨⟨keepB hb (Nat.le_refl _) h1, below_blk hb (heap_lt h2) h2, h3.below hb⟩, av, cv, h6, h7.below hb⟩
theorem FT.base {h : List Value} {u : World} (H : FT w0 S1 s1 sz cut len v1 bs h u) : Below w0.heap.size w0 u ∧ u.heap[S1]? = some (.cells s1 49 (0, 0)) ∧ IsBks .u32 u v1 bs := by
  match h, H with
  | [], H => exact H
  | [_], H => exact H.1
end
/-- What the reference's Find answers, as a number. -/
def found (ps : List Plc) (t : Nat) (b : Blk) : Int := match ps.find? (isIt t b) with
  | none => -1
  | some p => (p.i : Int)
theorem rfind_is {w : World} {ps : List Plc} {t : Nat} {b : Blk} {e : Ending} {w' : World} (h : RFind w ps t b e w') : e = .returned (.int .i64 (found ps t b)) ∧ Below w.heap.size w w' := by
  obtain ⟨⟨z, he, h⟩, hb⟩ := h
  refine ⟨?_, hb⟩
  rw [he]
  unfold found
  rcases h with ⟨rfl, h⟩ | ⟨p, rfl, h⟩ <;> rw [h]
theorem fnd_is {ps : List Plc} {t : Nat} {b : Blk} {i : Int} {ok : Bool} (h : Fnd ps t b i ok) : (found ps t b = -1 ∧ i = 0 ∧ ok = false) ∨ (0 ≤ found ps t b ∧ i = found ps t b ∧ ok = true) := by
  unfold found
  rcases h with ⟨h1, h2, h3⟩ | ⟨p, h1, h2, h3⟩
  · rw [h3]; exact .inl ⟨rfl, h2, h1⟩
  · rw [h3]; exact .inr ⟨by simp, h2, h1⟩
set_option maxHeartbeats 6400000 in
theorem in_walk (a a' : Option Addr) (m c m' c' : Nat) (D P : List Nat) (s k n : Nat) (w : World) (hs : SrcB w a m D) (hc : m ≤ c) (hcm : c ≤ 9223372036854775807) (hs' : SrcB w a' m' P) (hc' : m' ≤ c') (hT : Tbl w) (hF : Fst w) (hm : m ≤ 200) (hm' : m' ≤ 200)
    (hf : fitsE (s : Int) (k : Int) m = 0) (hn : cntZ m s = (n : Int)) :
    Calls Tryd.prog 5 #[.slice a m c, .agg #[.int .i64 (s : Int), .int .i64 (k : Int)], .slice a' m' c'] w fun e w' => e = .returned (.bool true) ∧ Below w.heap.size w w' := by
  have hz := fitsE_zero hf
  have hs1 : 1 ≤ s := by omega
  have hs2 : s ≤ 4096 := by omega
  have hk : k ≤ 32 := by omega
  have hn4 : n ≤ 4096 := by omega
  have hch := mk_check D s k n m hf hn
  have hml := mkB_length D s k n
  have hPl := hs'.1
  have hP8 := hs'.2.1
  have hnw := below_new w (.cells #[.int .i64 (s : Int), .int .i64 (k : Int)] 61)
  have HH := hide (sums_c (w.alloc (.cells #[.int .i64 (s : Int), .int .i64 (k : Int)] 61)) (tbl_keep hT hnw (Nat.le_refl _)) (fst_keep hF hnw (Nat.le_refl _)))
  have HN := hide hnw
  have HP := hide (heap_last w (.cells #[.int .i64 (s : Int), .int .i64 (k : Int)] 61))
  have HA := hide (fun u (hu : Below w.heap.size w u) => make_ok a m c D s k n u (hs.below hu) hc hcm hf hn (tbl_keep hT hu (Nat.le_refl _)) (fst_keep hF hu (Nat.le_refl _)))
  have HTF := hide (fun (u : World) (hu : Below w.heap.size w u) => (⟨tbl_keep hT hu (Nat.le_refl _), fst_keep hF hu (Nat.le_refl _), hs.below hu, hs'.below hu⟩ : Tbl u ∧ Fst u ∧ SrcB u a m D ∧ SrcB u a' m' P))
  have Hlt := hide (fun (i : Nat) (hi : i < n) => cnt_lt (m := m) (s := s) (i := i) (by omega) (by omega) (by omega) (by rw [hn]; omega))
  have Hof := hide (fun (i : Nat) (hi : i < n) => own_found D s m k n i hi)
  have Hat0 := hide (fun (i : Nat) (hi : i < n) => (show (mkB D s k n)[i]? = some (blkOf k (piece D s i)) from by
    unfold mkB
    rw [List.getElem?_map, List.getElem?_range hi]
    rfl))
  have Hch := hide hch
  have hW := wkN_lt P
  have HVal := hide (fun u : World => refval_b P u hP8 (by omega))
  have hin : ∀ i, i < n → i * s ≤ m := fun i hi => by
    have := cnt_lt (m := m) (s := s) (i := i) (by omega) (by omega) (by omega) (by rw [hn]; omega)
    have e0 : (i : Int) * (s : Int) = ((i * s : Nat) : Int) := by simp
    rw [e0] at this
    omega
  have HRf := hide (fun (u : World) (av : Option Addr) (cv : Nat) (hb : IsBks .i64 u (.slice av n cv) (mkB D s k n)) => reffind_c u s k m n cv av (mkB D s k n) P hb hml hP8 (by omega) hk hs1 hs2 (by omega) hn4 hin)
  have HFa := hide (fun (u : World) (T M N x q cq : Nat) (aq : Option Addr) (L : List Nat) (es : List (Value × Value)) h1 h2 h3 h4 h5 h6 h7 h8 => find_any u T M N k x q cq aq L es (grp s m (mkB D s k n) n) h1 h2 h3 hk h4 h5 h6 h7 h8 (by have := grp_length s m (mkB D s k n) n x; omega))
  have HGr := hide (fun (x q : Nat) (Y : List Nat) => find_grp s m (mkB D s k n) n x q Y)
  clear hf hn hz hs hs' hT hF hnw hch hin
  rw [hPl] at HRf
  obtain ⟨bs, hbs⟩ : ∃ bs, bs = mkB D s k n := ⟨_, rfl⟩
  rw [← hbs] at HA Hof Hat0 Hch HRf HFa HGr hml
  clear hbs
  have d1 : decide ((200 : Int) < (m : Int)) = false := by simp; omega
  have d1' : decide (200 < m) = false := by simp; omega
  have d2 : decide ((200 : Int) < (m' : Int)) = false := by simp; omega
  have d2' : decide (200 < m') = false := by simp; omega
  go_enter Tryd.func5, Tryd.ntmps5
  go_wp2_with fail
  generalize (w.alloc (.cells #[.int .i64 (s : Int), .int .i64 (k : Int)] 61)) = w0 at *
  refine HH.out.mono ?_
  rintro e w1 ⟨rfl, hb1⟩
  have HB1 := hide (keepB hb1 (Nat.le_refl _) HN.out)
  have HP1 := hide (below_blk hb1 (heap_lt HP.out) HP.out)
  clear hb1 HH HN HP
  have c0 : w1.cell? ⟨w.heap.size, 0, none⟩ = some (.int .i64 (s : Int)) := blk_cell HP1.out rfl
  have c1 : w1.cell? ⟨w.heap.size, 1, none⟩ = some (.int .i64 (k : Int)) := blk_cell HP1.out rfl
  go_wp2_with fail
  (with_reducible refine Calls.mono (HA.out w1 HB1.out) ?_)
  rintro e w3 ⟨v, rfl, ho, hb3⟩
  have HB3 := hide (keepB hb3 (Nat.le_refl _) HB1.out)
  have his := ho.is
  obtain ⟨_, av, cv, hv, hcv, hcvm, -⟩ := ho.is
  rw [hml] at hv hcv
  subst hv
  clear hb3 HB1 HA HP1 c0 c1 ho
  unfold sigV
  have HI3 := hide (his.below (below_new w3 (.cells #[.int .i64 (s : Int), .int .i64 (k : Int), .int .i64 (m : Int), .slice av n cv] 49)))
  have HS3 := hide (heap_last w3 (.cells #[.int .i64 (s : Int), .int .i64 (k : Int), .int .i64 (m : Int), .slice av n cv] 49))
  have HB4 := hide (keepB (below_new w3 (.cells #[.int .i64 (s : Int), .int .i64 (k : Int), .int .i64 (m : Int), .slice av n cv] 49)) (Nat.le_refl _) HB3.out)
  have HIx := hide (fun (u : World) (hb : IsBks .u32 u (.slice av n cv) bs) => index_c u s k m n cv av bs hb hml Hch.out)
  unfold sigV at HIx
  clear his HB3
  go_wp2_with fail
  generalize (w3.alloc (.cells #[.int .i64 (s : Int), .int .i64 (k : Int), .int .i64 (m : Int), .slice av n cv] 49)) = w4 at *
  generalize w3.heap.size = S1 at *
  refine (HIx.out w4 HI3.out).mono ?_
  rintro e w5 ⟨rfl, hTb5, ⟨es, hTab5⟩, hb5⟩
  rw [hml] at hTab5
  have HB5 := hide (keepB hb5 (Nat.le_refl _) HB4.out)
  have HS5 := hide (below_blk hb5 (heap_lt HS3.out) HS3.out)
  have HI5 := hide (HI3.out.below hb5)
  have HTb5 := hide hTb5
  have HTab5 := hide hTab5
  clear hb5 hTb5 hTab5 HB4 HS3 HI3 HIx
  generalize w4.heap.size = T4 at *
  obtain ⟨-, -, -, hsp5⟩ := HTF.out w5 HB5.out
  have hcv5 := conv_src (cap := c') hsp5
  clear hsp5
  obtain ⟨X, hX⟩ : ∃ X, X = strN P := ⟨_, rfl⟩
  obtain ⟨W, hWW⟩ : ∃ W, W = wkN P := ⟨_, rfl⟩
  have HX := hide hX
  have HWW := hide hWW
  rw [← hX] at hcv5 HVal HRf
  rw [← hWW] at HVal HRf hW
  clear hX hWW
  have hwr : IntKind.u32.wrap (W : Int) = (W : Int) := by
    rw [IntKind.wrap_u32]
    omega
  go_wp2_with fail
  refine (HVal.out w5).mono ?_
  rintro e w6 ⟨rfl, rfl⟩
  clear HVal
  have HFi := hide (HFa.out w5 (T4 + 1 + 1) (T4 + 1) (T4 + 3) W m' c' a' P es HTb5.out HTab5.out hW (HTF.out w5 HB5.out).2.2.2 hc' (by omega) (HTF.out w5 HB5.out).1 (HTF.out w5 HB5.out).2.1)
  have hdW : (W : Int) % 4294967296 = (W : Int) := by omega
  go_wp2_with fail
  refine HFi.out.mono ?_
  rintro e w7 ⟨i0, ok, rfl, hfd, hb7⟩
  have hfd2 := fnd_is hfd
  have hz : found (grp s m bs n W) m' ⟨W, cutL k (sha P)⟩ = found (plcs s m bs n) m' ⟨W, cutL k (sha P)⟩ := by unfold found; rw [HGr.out]
  rw [hz] at hfd2
  obtain ⟨z, hzz⟩ : ∃ z, z = found (plcs s m bs n) m' ⟨W, cutL k (sha P)⟩ := ⟨_, rfl⟩
  have HZ := hide hzz
  rw [← hzz] at hfd2
  have HB7 := hide (keepB hb7 (Nat.le_refl _) HB5.out)
  have HS7 := hide (below_blk hb7 (heap_lt HS5.out) HS5.out)
  have HI7 := hide (HI5.out.below hb7)
  have HTb7 := hide (below_blk hb7 (heap_lt HTb5.out) HTb5.out)
  have HTab7 := hide (HTab5.out.below hb7)
  clear hb7 hfd hz hzz HFi HB5 HS5 HI5 HTb5 HTab5 hcv5 hwr hdW
  have HCv := hide (fun (u : World) (hu : Below w7.heap.size w7 u) => conv_src (cap := c') (HTF.out u (keepB hu (Nat.le_refl _) HB7.out)).2.2.2)
  rw [← HX.out] at HCv
  go_wp2_with fail
  refine wp_region_g (FT w7 S1 #[.int .i64 (s : Int), .int .i64 (k : Int), .int .i64 (m : Int), .slice av n cv] s k m (.slice av n cv) bs)
    [some (some (sigV s k m (.slice av n cv))), none, some (some (.slice a' m' c')), some (some (.string X)), some none, some none] (by kernel_rfl) (by kernel_rfl) [1] [1, 4, 5] rfl rfl (by kernel_rfl) ⟨(Below.refl _ _).drew, HS7.out, HI7.out⟩ ?_
  refine gF_step (by rfl) (fun h u K hT hK => ?_) ?_
  · obtain ⟨r0, r1, r2, r3⟩ := Sig4.cells (T := 49) hT.base.2.1
    go_simp
    exact hK _ hT
  simp only [Act.put, List.setIfInBounds_toArray, List.set_cons_zero, List.set_cons_succ]
  refine gD_step (fun p => ∃ av cv, p = sigV s k m (.slice av n cv)) ⟨_, none, 0, rfl⟩ (by rfl) (fun u K hT hK => ?_) (fun p hp => ?_)
  · have hT0 : FT w7 S1 #[.int .i64 (s : Int), .int .i64 (k : Int), .int .i64 (m : Int), .slice av n cv] s k m (.slice av n cv) bs [] u := hT
    go_simp
    go_at_call 25
    (with_reducible refine Calls.mono (plain_c u s k m av n cv bs hT0.base.2.2 hml (by omega)) ?_)
    rintro e u2 ⟨v, rfl, ho, hu⟩
    have his := ho.is
    obtain ⟨_, a2, c2, rfl, _⟩ := ho.is
    rw [hml]
    refine hK _ _ ⟨a2, c2, rfl⟩ ⟨FT.up hT0 hu, a2, c2, by rw [hml], his⟩
  obtain ⟨a2, c2, rfl⟩ := hp
  simp only [Act.put, List.setIfInBounds_toArray, List.set_cons_zero, List.set_cons_succ]
  refine gF_step (by rfl) (fun h u K hT hK => ?_) ?_
  · go_simp
    exact hK _ hT
  simp only [Act.put, List.setIfInBounds_toArray, List.set_cons_zero, List.set_cons_succ]
  refine gF_step (by rfl) (fun h u K hT hK => ?_) ?_
  · go_simp
    rw [HCv.out _ hT.base.1]
    go_simp
    exact hK _ hT
  simp only [Act.put, List.setIfInBounds_toArray, List.set_cons_zero, List.set_cons_succ]
  refine gG_step (v := .int .i64 z) (by rfl) (fun h' u K hT hK => ?_) ?_
  · have hT1 : ∃ av' cv', sigV s k m (.slice a2 n c2) = sigV s k m (.slice av' bs.length cv') ∧ IsBks .i64 u (.slice av' bs.length cv') bs := by
      match h', hT with
      | [], hT => exact hT.2
    obtain ⟨av', cv', e, hi⟩ := hT1
    have e' : a2 = av' ∧ c2 = cv' := by
      rw [hml] at e
      unfold sigV at e
      simpa using e
    obtain ⟨rfl, rfl⟩ := e'
    rw [hml] at hi
    have hsm := HRf.out u a2 c2 hi
    unfold sigV at hsm ⊢
    go_simp
    go_at_call 32
    (with_reducible refine Calls.mono hsm ?_)
    intro e u2 hr
    obtain ⟨rfl, hu⟩ := rfind_is hr
    rw [← HZ.out]
    exact hK _ (hT.up hu)
  simp only [Act.put, List.setIfInBounds_toArray, List.set_cons_zero, List.set_cons_succ]
  refine gG_step (v := .int .i64 z) (by rfl) (fun h' u K hT hK => ?_) ?_
  · go_simp
    exact hK _ hT
  simp only [Act.put, List.setIfInBounds_toArray, List.set_cons_zero, List.set_cons_succ]
  refine g_nil (fun w8 hT8 => ?_)
  obtain ⟨hb8, hS8, hI8⟩ := hT8.base
  have HB8 := hide (keepB hb8 (Nat.le_refl _) HB7.out)
  have HS8 := hide hS8
  have HTb8 := hide (below_blk hb8 (heap_lt HTb7.out) HTb7.out)
  have HTab8 := hide (HTab7.out.below hb8)
  have hI8' := hide hI8
  obtain ⟨b1, y1, g1, o1, ev1, -, hv1, ha1, hat1⟩ := hI8.at
  rw [hml] at ev1 ha1
  injection ev1 with x1 x2 x3
  subst x1 x3
  have Hat1 := hide hat1
  clear hT8 hb8 hS8 hI8 HB7 HS7 HI7 HTb7 HTab7 HCv HRf x2 hat1 HX HWW HZ hPl hP8 d1 d1' d2 d2'
  rcases hfd2 with ⟨hz1, rfl, rfl⟩ | ⟨hz1, rfl, rfl⟩
  all_goals
    first
    | (subst hz1)
    | (have dz : decide (0 ≤ i0) = true := by simpa using hz1
       have dz1 : (i0 != i0) = false := by simp
       clear hz1)
    obtain ⟨c0, c1, c2, c3⟩ := Sig4.cells (T := 49) HS8.out
    go_wp2_with fail
  all_goals
    clear c0 c1 c2 c3
    go_loopw [82] (fun j wr => ∃ i, j = .int .i64 ((i : Nat) : Int) ∧ i ≤ n ∧ Below w8.heap.size w8 wr) (fun j _ => n - (intOf j).toNat)
    case atStart => exact ⟨0, rfl, Nat.zero_le _, Below.refl _ _⟩
    case round =>
      obtain ⟨i, rfl, hi, hW8⟩ := hrel
      have HW := hide hW8
      clear hW8
      by_cases hlt : i < n
      · have him := Hlt.out i hlt
        have e0 : (i : Int) * (s : Int) = ((i * s : Nat) : Int) := by simp
        rw [e0] at him
        obtain ⟨r, hr⟩ : ∃ r, r = i * s := ⟨_, rfl⟩
        obtain ⟨q, hq⟩ : ∃ q, q = min s (m - r) := ⟨_, rfl⟩
        rw [← hr] at him
        have hrm : r < m := by omega
        have hqi : min (s : Int) ((m : Int) - (i : Int) * (s : Int)) = (q : Int) := by rw [e0, ← hr, hq]; omega
        have hq0 : 0 < q := by omega
        have hqm : r + q ≤ m := by omega
        obtain ⟨pl, hp1, hp2, hp3⟩ := Hof.out i hlt
        rw [← hr, ← hq] at hp1
        have hp4 := Hat0.out i hlt
        obtain ⟨L, hL⟩ : ∃ L, L = piece D s i := ⟨_, rfl⟩
        have hLp : L = (D.drop r).take s := by rw [hL, hr]; rfl
        rw [← hL] at hp1 hp3 hp4
        obtain ⟨hbok, hr1⟩ := Hat1.out _ _ hp3
        obtain ⟨-, hr2⟩ := Hat1.out _ _ hp4
        have hpn : pl.i < n := by
          have := (List.getElem?_eq_some_iff.1 hp3).1
          rw [hml] at this
          exact this
        have ea1 := ha1 (by omega)
        have hIw : IsBks .u32 w8 (.slice av n cv) bs := hI8'.out
        have HSp := hide (fun (u : World) (hu : Below w8.heap.size w8 u) => Span_c u s k m i q av n cv bs (hIw.below hu) hml Hch.out hlt hqi)
        rw [← hr] at HSp
        unfold sigV at HSp
        subst ea1
        have HLL := hide (fun (u : World) (hu : Below w8.heap.size w8 u) => (show SrcB u (a.map (·.add r)) q L from by
          have hs := (HTF.out u (keepB hu (Nat.le_refl _) HB8.out)).2.2.1
          rw [hLp]
          exact src_piece hs r s q hq (by omega)))
        have HR1 := hide (fun u (hu : Below w8.heap.size w8 u) => range_below hr1 hu)
        have HR2 := hide (fun u (hu : Below w8.heap.size w8 u) => range_below hr2 hu)
        have HQ1 := hide hp1
        clear hp1 hp3 hp4 hr1 hr2 hIw e0 hr him hqi hL hLp hq
        have d3 : decide ((i : Int) < (n : Int)) = true := by simpa using hlt
        have HSw := hide (below_blk HW.out (heap_lt HS8.out) HS8.out)
        obtain ⟨c0, c1, c2, c3⟩ := Sig4.cells (T := 49) HSw.out
        go_wp2_with fail
        refine (HSp.out wr HW.out).mono ?_
        rintro e wa ⟨rfl, hba⟩
        have HWa := hide (keepB hba (Nat.le_refl _) HW.out)
        clear hba HW HSp HSw c0 c1 c2 c3
        have hsl : ∀ u : World, _ := fun u => slice_lh u a m c r q (r : Int) ((r : Int) + (q : Int)) rfl rfl hq0 hqm hc
        obtain ⟨aP, haP⟩ : ∃ aP, aP = a.map (·.add r) := ⟨_, rfl⟩
        rw [← haP] at HLL hsl
        clear haP
        have HWk := hide (weak_b aP q (c - r) L wa (HLL.out wa HWa.out) (by omega))
        go_wp2_with fail
        refine HWk.out.mono ?_
        rintro e wb ⟨rfl, hbb⟩
        have HWb := hide (keepB hbb (Nat.le_refl _) HWa.out)
        clear hbb HWa HWk
        have HVl := hide (value_b q L wb)
        generalize Wm.lo (ints L) = lo at *
        generalize Wm.hi (ints L) = hi' at *
        go_wp2_with fail
        refine HVl.out.mono ?_
        rintro e wc ⟨rfl, hbc⟩
        have HWc := hide (keepB hbc (Nat.le_refl _) HWb.out)
        clear hbc HWb HVl
        have htf := HTF.out wc (keepB HWc.out (Nat.le_refl _) HB8.out)
        have HFi := hide (HFa.out wc (T4 + 1 + 1) (T4 + 1) (T4 + 3) (wkN L) q (c - r) aP L es (below_blk HWc.out (heap_lt HTb8.out) HTb8.out) (HTab8.out.below HWc.out) (wkN_lt L) (HLL.out wc HWc.out) (by omega) (by omega) htf.1 htf.2.1)
        clear htf
        go_wp2_with fail
        refine HFi.out.mono ?_
        rintro e wd ⟨ix, okx, rfl, hfx, hbd⟩
        have hfx2 : Fnd (plcs s m bs n) q (blkOf k L) ix okx := by
          rcases hfx with ⟨h1, h2, h3⟩ | ⟨p, h1, h2, h3⟩
          · exact .inl ⟨h1, h2, by have := HGr.out (wkN L) q (cutL k (sha L)); rw [h3] at this; exact this.symm⟩
          · exact .inr ⟨p, h1, h2, by have := HGr.out (wkN L) q (cutL k (sha L)); rw [h3] at this; exact this.symm⟩
        obtain ⟨rfl, rfl⟩ := fnd_det hfx2 HQ1.out
        have HWd := hide (keepB hbd (Nat.le_refl _) HWc.out)
        have HSd := hide (below_blk HWd.out (heap_lt HS8.out) HS8.out)
        clear hbd hfx hfx2 HWc HFi hsl HLL HQ1
        obtain ⟨j, hj⟩ : ∃ j, j = pl.i := ⟨_, rfl⟩
        rw [← hj] at hp2 hpn HR1 ⊢
        obtain ⟨b, hb⟩ : ∃ b, b = blkOf k L := ⟨_, rfl⟩
        rw [← hb] at hbok HR1 HR2
        clear hj hb
        have d4 : decide ((i : Int) < (j : Int)) = false := by simp; omega
        have d4' : decide (i < j) = false := by simp; omega
        have i1 : (0 : Int) ≤ (i : Int) := by omega
        have i2 : (i : Int) < (n : Int) := by omega
        have j1 : (0 : Int) ≤ (j : Int) := by omega
        have j2 : (j : Int) < (n : Int) := by omega
        have hsz : (blkC .u32 b).length = 33 := blkC_length hbok
        have hq' := fun u => blk_eq b b hbok hbok u
        rw [show decide (b = b) = true by simp] at hq'
        have hmg : Tryd.prog.eqGuardType Tryd.prog.depth 81 = false := by kernel_rfl
        go_wp2_with fail
        refine wp_region_keep (fun u => u.heap[S1]? = some (.cells #[.int .i64 (s : Int), .int .i64 (k : Int), .int .i64 (m : Int), .slice (some ⟨g1, o1, none⟩) n cv] 49 (0, 0)) ∧ Below w8.heap.size w8 u) (by kernel_rfl) (by kernel_rfl) ⟨HSd.out, HWd.out.drew⟩ ?_
        repeat (first
          | (refine keep_step (v := .agg (blkC .u32 b).toArray) (by rfl) (fun u K hS hK => kUpon_load_mid 81 (.tmp 117) rfl g1 (o1 + j * 33) _ rfl (run_loadVar_mid (P := Tryd.prog) u g1 (o1 + j * 33) 81 (blkC .u32 b) _ (HR1.out u hS.2) Tryd.underlying81 rfl (by rw [hsz]; kernel_rfl)) (hK _ hS)) ?_
             simp only [Act.put, List.setIfInBounds_toArray, List.set_cons_zero, List.set_cons_succ])
          | (refine keep_step (v := .agg (blkC .u32 b).toArray) (by rfl) (fun u K hS hK => kUpon_load_mid 81 (.tmp 122) rfl g1 (o1 + i * 33) _ rfl (run_loadVar_mid (P := Tryd.prog) u g1 (o1 + i * 33) 81 (blkC .u32 b) _ (HR2.out u hS.2) Tryd.underlying81 rfl (by rw [hsz]; kernel_rfl)) (hK _ hS)) ?_
             simp only [Act.put, List.setIfInBounds_toArray, List.set_cons_zero, List.set_cons_succ])
          | (refine keep_step (v := ?_) (by rfl) (fun u K hS hK => ?_) ?_
             rotate_left
             · obtain ⟨c0, c1, c2, c3⟩ := Sig4.cells (T := 49) hS.1
               (go_simp; with_reducible exact hK _ hS)
             simp only [Act.put, List.setIfInBounds_toArray, List.set_cons_zero, List.set_cons_succ]))
        refine keep_nil (fun wA hSA => ?_)
        have HSA := hide hSA.2
        clear hSA hq' hmg HR1 HR2 HSd HWd
        go_wp2
        go_roundw
        case rel => exact ⟨i + 1, by go_num, by omega, HSA.out⟩
        case measure => simp [intOf]; omega
      · obtain rfl : i = n := by omega
        have d3 : decide ((i : Int) < (i : Int)) = false := by simp
        have HBe := hide (keepB HW.out (Nat.le_refl _) HB8.out)
        go_wp2
        go_ret
        exact ⟨rfl, HBe.out⟩
theorem fits_in {x y : Int} {m : Nat} (hf : fitsE x y m = 0) : ∃ s k n : Nat, x = (s : Int) ∧ y = (k : Int) ∧ cntZ m s = (n : Int) := by
  have hz := fitsE_zero hf
  obtain ⟨s, rfl⟩ := Int.eq_ofNat_of_zero_le (show 0 ≤ x by omega)
  obtain ⟨k, rfl⟩ := Int.eq_ofNat_of_zero_le (show 0 ≤ y by omega)
  obtain ⟨n, hn⟩ : ∃ n : Nat, cntZ (m : Int) (s : Int) = (n : Int) := ⟨(cntZ (m : Int) (s : Int)).toNat, by have := cntZ_nonneg (m : Int) (s : Int); omega⟩
  exact ⟨s, k, n, rfl, rfl, hn⟩
theorem walk_any (a a' : Option Addr) (m c m' c' : Nat) (D P : List Nat) (x y : Int) (w : World) (hs : SrcB w a m D) (hc : m ≤ c) (hcm : c ≤ 9223372036854775807) (hs' : SrcB w a' m' P) (hc' : m' ≤ c') (hT : Tbl w) (hF : Fst w) :
    Calls Tryd.prog 5 #[.slice a m c, .agg #[.int .i64 x, .int .i64 y], .slice a' m' c'] w fun e w' => e = .returned (.bool true) ∧ Below w.heap.size w w' := by
  by_cases hg : 200 < m ∨ 200 < m'
  · exact out_walk a a' m c m' c' x y w hT hF hg
  · by_cases hf : fitsE x y m = 0
    · obtain ⟨s, k, n, rfl, rfl, hn⟩ := fits_in hf
      exact in_walk a a' m c m' c' D P s k n w hs hc hcm hs' hc' hT hF (by omega) (by omega) hf hn
    · exact bad_walk a a' m c m' c' x y w hT hF (by omega) (by omega) hf
end Go.Proofs.YtifepgigkmhdaaaDoor.BlockFindsW
