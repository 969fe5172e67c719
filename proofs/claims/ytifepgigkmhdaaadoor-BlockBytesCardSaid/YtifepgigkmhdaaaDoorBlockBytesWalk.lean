/- BlockBytes' walk. -/
import Derived.Test.YtifepgigkmhdaaaDoorPh
import Derived.Test.YtifepgigkmhdaaaDoorPi
import Derived.Test.YtifepgigkmhdaaaDoorKy
import Derived.Test.YtifepgigkmhdaaaDoorPf
namespace Go.Proofs.YtifepgigkmhdaaaDoor.BlockBytesW
set_option linter.unusedVariables false
set_option linter.unusedSimpArgs false
set_option maxRecDepth 100000
open Go.ChangeShapes Go.WideShapes Go.ChangeAt Go.RowKit
open Go.Proofs.YtifepgigkmhdaaaDoor.Wu Go.Proofs.YtifepgigkmhdaaaDoor.Sm Go.Proofs.YtifepgigkmhdaaaDoor.Sh Go.Proofs.YtifepgigkmhdaaaDoor.Ba Go.Proofs.YtifepgigkmhdaaaDoor.Bp Go.Proofs.YtifepgigkmhdaaaDoor.Bs Go.Proofs.YtifepgigkmhdaaaDoor.Ka Go.Proofs.YtifepgigkmhdaaaDoor.Kb Go.Proofs.YtifepgigkmhdaaaDoor.Kc Go.Proofs.YtifepgigkmhdaaaDoor.Kd Go.Proofs.YtifepgigkmhdaaaDoor.Ke Go.Proofs.YtifepgigkmhdaaaDoor.Rk Go.Proofs.YtifepgigkmhdaaaDoor.Rg Go.Proofs.YtifepgigkmhdaaaDoor.Kh Go.Proofs.YtifepgigkmhdaaaDoor.Ki Go.Proofs.YtifepgigkmhdaaaDoor.Kp Go.Proofs.YtifepgigkmhdaaaDoor.Kr Go.Proofs.YtifepgigkmhdaaaDoor.Kw Go.Proofs.YtifepgigkmhdaaaDoor.Kx Go.Proofs.YtifepgigkmhdaaaDoor.Ky
open Go.Proofs.YtifepgigkmhdaaaDoor.Sn (Fst fst_keep)
open Go.Proofs.YtifepgigkmhdaaaDoor.Sxa (Tbl tbl_keep)
attribute [local go_sem] kUpon_value kUpon_skip kUpon_enter
theorem out_walk (sz cut len : Int) (a : Option Addr) (m c : Nat) (w : World) (hT : Tbl w) (hF : Fst w) (hg : 100 < m) :
    Calls Tryd.prog 4 #[sigV sz cut len (.slice a m c)] w fun e w' => e = .returned (.bool true) ∧ Below w.heap.size w w' := by
  unfold sigV
  have HN := hide (below_new w (.cells #[.int .i64 sz, .int .i64 cut, .int .i64 len, .slice a m c] 49))
  have HS := hide (heap_last w (.cells #[.int .i64 sz, .int .i64 cut, .int .i64 len, .slice a m c] 49))
  have HH := hide (sums_c _ (tbl_keep hT HN.out (Nat.le_refl _)) (fst_keep hF HN.out (Nat.le_refl _)))
  clear hT hF
  have d1 : decide ((100 : Int) < (m : Int)) = true := by simp; omega
  have d1' : decide (100 < m) = true := by simp; omega
  go_enter Tryd.func4, Tryd.ntmps4
  go_wp2_with fail
  generalize (w.alloc (.cells #[.int .i64 sz, .int .i64 cut, .int .i64 len, .slice a m c] 49)) = w0 at *
  refine HH.out.mono ?_
  rintro e w1 ⟨rfl, hb1⟩
  have HB1 := hide (keepB hb1 (Nat.le_refl _) HN.out)
  have HS1 := hide (below_blk hb1 (heap_lt HS.out) HS.out)
  clear hb1 HN HS HH
  obtain ⟨c0, c1, c2, c3⟩ := Sig4.cells (T := 49) HS1.out
  go_wp2
  go_ret
  exact ⟨rfl, HB1.out⟩
/-- What the program's Bytes answers. -/
def BAns (w : World) (L : List Nat) (z : Int) (e : Ending) (w' : World) : Prop := ∃ a n c, e = .returned (.tuple #[.slice a n c, .int .i64 z]) ∧ SrcB w' a n L ∧ n ≤ c ∧ Below w.heap.size w w'
/-- Both sides' answers are one. -/
theorem both (sz cut len : Int) (m : Nat) (bs : List Blk) (hm : bs.length = m) (hl : len ≤ 9223372036854775807) : ∃ (L : List Nat) (z : Int), L.length ≤ 200000 ∧ checkE sz cut len bs = z ∧
    (∀ (u : World) (a : Option Addr) (c : Nat), IsBks .u32 u (.slice a m c) bs → Calls Tryd.prog 23 #[sigV sz cut len (.slice a m c)] u (BAns u L z)) ∧
    (∀ (u : World) (a : Option Addr) (c : Nat), IsBks .i64 u (.slice a m c) bs → Calls Tryd.prog 24 #[sigV sz cut len (.slice a m c)] u fun e w' => e = .returned (.tuple #[.string (strN L), .int .i64 z]) ∧ Below u.heap.size u w') := by
  by_cases hz : checkE sz cut len bs = 0
  · have hf : fitsE sz cut len = 0 := by
      have h2 := hz
      unfold checkE at h2
      split at h2
      · exact h2
      · rename_i h; simpa using h
    have hb := fitsE_zero hf
    obtain ⟨s, rfl⟩ := Int.eq_ofNat_of_zero_le (show 0 ≤ sz by omega)
    obtain ⟨k, rfl⟩ := Int.eq_ofNat_of_zero_le (show 0 ≤ cut by omega)
    obtain ⟨l, rfl⟩ := Int.eq_ofNat_of_zero_le (show 0 ≤ len by omega)
    by_cases hoks : Oks bs
    · have hmn : (m : Int) = cntZ l s := by
        have h2 := hz
        unfold checkE at h2
        rw [if_neg (by simpa using hf)] at h2
        split at h2
        · cases h2
        · rename_i h; rw [← hm]; omega
      refine ⟨sigL s k l bs, 0, ?_, hz, fun u a c hb' => ?_, fun u a c hb' => rb_ok u s k l m c a bs hb' hm hz⟩
      · have h1 := headL_len s k l (by omega) (by omega) (by omega)
        have h2 := blks_len (k := k) hoks (by omega)
        unfold sigL
        rw [List.length_append]
        omega
      · refine (bytes_ok u s k l m c a bs hb' hm hz).mono ?_
        rintro e w' ⟨v, rfl, hbf, hbe⟩
        obtain ⟨a', c', rfl, hs, hc, _, _⟩ := hbf.form
        exact ⟨a', _, c', rfl, hs, hc, hbe⟩
    · exact ⟨[], 0, by simp, hz, fun u a c hb' => absurd hb'.1 hoks, fun u a c hb' => absurd hb'.1 hoks⟩
  · refine ⟨[], checkE sz cut len bs, by simp, rfl, fun u a c hb' => ?_, fun u a c hb' => rb_bad u sz cut len _ a m c bs hb' hm hl hz rfl⟩
    have hcm : bs.length ≤ 9223372036854775807 := by
      obtain ⟨a', c', g, off, hv, h1, h2, _⟩ := hb'.at
      omega
    refine (bytes_bad u sz cut len (.slice a m c) bs rfl hl _ hz (fun u' hu' => check_c u' sz cut len (.slice a m c) bs (hb'.below hu') hl hcm)).mono ?_
    rintro e w' ⟨rfl, hbe⟩
    exact ⟨none, 0, 0, rfl, SrcB.nil w' none, Nat.le_refl _, hbe⟩
/-- The stages of the region that checks. -/
def FT (w0 : World) (S1 : Nat) (s1 : Array Value) (sz cut len : Int) (v1 : Value) (bs : List Blk) : List Value → World → Prop
  | [], u => Below w0.heap.size w0 u ∧ u.heap[S1]? = some (.cells s1 49 (0, 0)) ∧ IsBks .u32 u v1 bs
  | [p], u => (Below w0.heap.size w0 u ∧ u.heap[S1]? = some (.cells s1 49 (0, 0)) ∧ IsBks .u32 u v1 bs) ∧ ∃ av cv, p = sigV sz cut len (.slice av bs.length cv) ∧ IsBks .i64 u (.slice av bs.length cv) bs
  | _, _ => False
section
variable {w0 : World} {S1 : Nat} {s1 : Array Value} {sz cut len : Int} {v1 : Value} {bs : List Blk}
theorem FT.up {h : List Value} {u u' : World} (H : FT w0 S1 s1 sz cut len v1 bs h u) (hb : Below u.heap.size u u') : FT w0 S1 s1 sz cut len v1 bs h u' := by
  match h, H with
  | [], ⟨h1, h2, h3⟩ => exact ⟨keepB hb (Nat.le_refl _) h1, below_blk hb (heap_lt h2) h2, h3.below hb⟩
  | [_], ⟨⟨h1, h2, h3⟩, av, cv, h6, h7⟩ => exact ⟨⟨keepB hb (Nat.le_refl _) h1, below_blk hb (heap_lt h2) h2, h3.below hb⟩, av, cv, h6, h7.below hb⟩
theorem FT.base {h : List Value} {u : World} (H : FT w0 S1 s1 sz cut len v1 bs h u) : Below w0.heap.size w0 u ∧ u.heap[S1]? = some (.cells s1 49 (0, 0)) ∧ IsBks .u32 u v1 bs := by
  match h, H with
  | [], H => exact H
  | [_], H => exact H.1
end
set_option maxHeartbeats 6400000 in
theorem in_walk (sz cut len : Int) (a : Option Addr) (m c : Nat) (bs : List Blk) (w : World) (hb : IsBks .u32 w (.slice a m c) bs) (hml : bs.length = m) (hl : len ≤ 9223372036854775807) (hT : Tbl w) (hF : Fst w) (hg : m ≤ 100) :
    Calls Tryd.prog 4 #[sigV sz cut len (.slice a m c)] w fun e w' => e = .returned (.bool true) ∧ Below w.heap.size w w' := by
  obtain ⟨L, z, hL, hz, hPB, hRB⟩ := both sz cut len m bs hml hl
  have HPB := hide hPB
  have HRB := hide hRB
  have HCk := hide (fun (u : World) (hu : IsBks .u32 u (.slice a m c) bs) => check_c u sz cut len (.slice a m c) bs hu hl (by omega))
  have HRC := hide (fun (u : World) (av : Option Addr) (cv : Nat) (hu : IsBks .i64 u (.slice av m cv) bs) => rc_any u sz cut len av m cv bs hu hml hl)
  rw [hz] at HCk HRC
  have HN := hide (below_new w (.cells #[.int .i64 sz, .int .i64 cut, .int .i64 len, .slice a m c] 49))
  have HS := hide (heap_last w (.cells #[.int .i64 sz, .int .i64 cut, .int .i64 len, .slice a m c] 49))
  have HH := hide (sums_c _ (tbl_keep hT HN.out (Nat.le_refl _)) (fst_keep hF HN.out (Nat.le_refl _)))
  have HI := hide hb
  clear hT hF hz hPB hRB hb
  have d1 : decide ((100 : Int) < (m : Int)) = false := by simp; omega
  have d1' : decide (100 < m) = false := by simp; omega
  unfold sigV at HCk HPB ⊢
  go_enter Tryd.func4, Tryd.ntmps4
  go_wp2_with fail
  generalize (w.alloc (.cells #[.int .i64 sz, .int .i64 cut, .int .i64 len, .slice a m c] 49)) = w0 at *
  refine HH.out.mono ?_
  rintro e w1 ⟨rfl, hb1⟩
  have HB1 := hide (keepB hb1 (Nat.le_refl _) HN.out)
  have HS1 := hide (below_blk hb1 (heap_lt HS.out) HS.out)
  have HI1 := hide (HI.out.below HB1.out)
  clear hb1 HN HS HH HI
  have HP1 := hide (HPB.out w1 a c HI1.out)
  clear HPB
  obtain ⟨c0, c1, c2, c3⟩ := Sig4.cells (T := 49) HS1.out
  go_wp2_with fail
  refine HP1.out.mono ?_
  rintro e w2 ⟨a2, n2, c2', rfl, hs2, hc2, hb2⟩
  have HB2 := hide (keepB hb2 (Nat.le_refl _) HB1.out)
  have HS2 := hide (below_blk hb2 (heap_lt HS1.out) HS1.out)
  have HI2 := hide (HI1.out.below hb2)
  have HR2 := hide hs2
  clear hb2 hs2 HB1 HS1 HI1 HP1 c0 c1 c2 c3
  have HPl := hide (plain_c w2 sz cut len a m c bs HI2.out hml (by omega))
  unfold sigV at HPl
  obtain ⟨c0, c1, c2, c3⟩ := Sig4.cells (T := 49) HS2.out
  go_wp2_with fail
  refine HPl.out.mono ?_
  rintro e w3 ⟨v, rfl, ho, hb3⟩
  have his := ho.is
  obtain ⟨_, av, cv, rfl, _⟩ := ho.is
  have HB3 := hide (keepB hb3 (Nat.le_refl _) HB2.out)
  have HS3 := hide (below_blk hb3 (heap_lt HS2.out) HS2.out)
  have HI3 := hide (HI2.out.below hb3)
  have HR3 := hide (HR2.out.below hb3)
  rw [hml] at his ⊢
  have HRb := hide (HRB.out w3 av cv his)
  unfold sigV at HRb
  clear ho hb3 his HB2 HS2 HI2 HR2 HPl HRB c0 c1 c2 c3
  go_wp2_with fail
  refine HRb.out.mono ?_
  rintro e w4 ⟨rfl, hb4⟩
  have HB4 := hide (keepB hb4 (Nat.le_refl _) HB3.out)
  have HS4 := hide (below_blk hb4 (heap_lt HS3.out) HS3.out)
  have HI4 := hide (HI3.out.below hb4)
  have HCv := hide (fun (u : World) (hu : Below w4.heap.size w4 u) => conv_src (cap := c2') ((HR3.out.below hb4).below hu))
  clear hb4 HRb HB3 HS3 HI3 HR3
  generalize strN L = X at *
  have hzz : (z == z) = true := by simp
  have hXX : (X.toList == X.toList) = true := by simp
  go_wp2_with fail
  refine wp_region_g (FT w4 w.heap.size #[.int .i64 sz, .int .i64 cut, .int .i64 len, .slice a m c] sz cut len (.slice a m c) bs)
    [some (some (.int .i64 z)), some (some (.int .i64 z)), some (some (.bool true)), some (some (.bool true)), some (some (.slice a2 n2 c2')), some (some (.string X)), some (some (.string X)), some (some (.bool true)), some (some (.bool true)), some (some (.bool true)),
     some (some (.agg #[.int .i64 sz, .int .i64 cut, .int .i64 len, .slice a m c])), some (some (.int .i64 z)), some (some (.agg #[.int .i64 sz, .int .i64 cut, .int .i64 len, .slice a m c])), none, some none, some none, some none, some none] (by kernel_rfl) (by kernel_rfl) [13] [13, 14, 15, 16, 17] rfl rfl (by kernel_rfl) ⟨(Below.refl _ _).drew, HS4.out, HI4.out⟩ ?_
  iterate 13
    (refine gF_step (by rfl) (fun h u K hT hK => ?_) ?_
     · obtain ⟨r0, r1, r2, r3⟩ := Sig4.cells (T := 49) hT.base.2.1
       go_simp
       first
       | (with_reducible exact hK _ hT)
       | (go_at_call 26; (with_reducible refine Calls.mono (HCk.out u hT.base.2.2) ?_); rintro e u2 ⟨rfl, hu⟩; exact hK _ (hT.up hu))
       | (rw [HCv.out _ hT.base.1]; go_simp; exact hK _ hT)
     simp only [Act.put, List.setIfInBounds_toArray, List.set_cons_zero, List.set_cons_succ])
  refine gD_step (fun p => ∃ av cv, p = sigV sz cut len (.slice av m cv)) ⟨_, none, 0, rfl⟩ (by rfl) (fun u K hT hK => ?_) (fun p hp => ?_)
  · have hT0 : FT w4 w.heap.size #[.int .i64 sz, .int .i64 cut, .int .i64 len, .slice a m c] sz cut len (.slice a m c) bs [] u := hT
    have hpc := plain_c u sz cut len a m c bs hT0.base.2.2 hml (by omega)
    unfold sigV at hpc
    go_simp
    go_at_call 25
    (with_reducible refine Calls.mono hpc ?_)
    rintro e u2 ⟨v, rfl, ho, hu⟩
    have his := ho.is
    obtain ⟨_, a5, c5, rfl, _⟩ := ho.is
    rw [hml]
    refine hK _ _ ⟨a5, c5, rfl⟩ ⟨FT.up hT0 hu, a5, c5, by rw [hml]; rfl, his⟩
  obtain ⟨a5, c5, rfl⟩ := hp
  simp only [Act.put, List.setIfInBounds_toArray, List.set_cons_zero, List.set_cons_succ]
  refine gG_step (v := .int .i64 z) (by rfl) (fun h' u K hT hK => ?_) ?_
  · have hT1 : ∃ av' cv', sigV sz cut len (.slice a5 m c5) = sigV sz cut len (.slice av' bs.length cv') ∧ IsBks .i64 u (.slice av' bs.length cv') bs := by
      match h', hT with
      | [], hT => exact hT.2
    obtain ⟨av', cv', e, hi⟩ := hT1
    have e' : a5 = av' ∧ c5 = cv' := by
      rw [hml] at e
      unfold sigV at e
      simpa using e
    obtain ⟨rfl, rfl⟩ := e'
    rw [hml] at hi
    have hsm := HRC.out u a5 c5 hi
    unfold sigV at hsm ⊢
    go_simp
    go_at_call 27
    (with_reducible refine Calls.mono hsm ?_)
    rintro e u2 ⟨rfl, hu⟩
    exact hK _ (hT.up hu)
  simp only [Act.put, List.setIfInBounds_toArray, List.set_cons_zero, List.set_cons_succ]
  iterate 3
    (refine gG_step (v := ?_) (by rfl) (fun h' u K hT hK => ?_) ?_
     rotate_left
     · go_simp
       exact hK _ hT
     simp only [Act.put, List.setIfInBounds_toArray, List.set_cons_zero, List.set_cons_succ])
  refine g_nil (fun w8 hT8 => ?_)
  have HB8 := hide (keepB hT8.base.1 (Nat.le_refl _) HB4.out)
  clear hT8
  go_wp2
  go_ret
  exact ⟨rfl, HB8.out⟩
theorem walk_any (sz cut len : Int) (a : Option Addr) (m c : Nat) (bs : List Blk) (w : World) (hb : IsBks .u32 w (.slice a m c) bs ∧ bs.length = m) (hl : len ≤ 9223372036854775807) (hT : Tbl w) (hF : Fst w) :
    Calls Tryd.prog 4 #[sigV sz cut len (.slice a m c)] w fun e w' => e = .returned (.bool true) ∧ Below w.heap.size w w' := by
  by_cases hg : 100 < m
  · exact out_walk sz cut len a m c w hT hF hg
  · exact in_walk sz cut len a m c bs w hb.1 hb.2 hl hT hF (by omega)
end Go.Proofs.YtifepgigkmhdaaaDoor.BlockBytesW
