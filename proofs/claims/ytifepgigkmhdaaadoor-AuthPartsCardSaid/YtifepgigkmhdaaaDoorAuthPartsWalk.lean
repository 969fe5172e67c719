/- AuthParts' walk. -/
import Derived.Test.YtifepgigkmhdaaaDoorPk
namespace Go.Proofs.YtifepgigkmhdaaaDoor.AuthPartsW
set_option linter.unusedVariables false
set_option linter.unusedSimpArgs false
set_option maxRecDepth 100000
open Go.ChangeShapes Go.WideShapes Go.ChangeAt Go.RowKit
open Go.Proofs.YtifepgigkmhdaaaDoor.Wu Go.Proofs.YtifepgigkmhdaaaDoor.Sm Go.Proofs.YtifepgigkmhdaaaDoor.Sh Go.Proofs.YtifepgigkmhdaaaDoor.Ba Go.Proofs.YtifepgigkmhdaaaDoor.Bp Go.Proofs.YtifepgigkmhdaaaDoor.Bs Go.Proofs.YtifepgigkmhdaaaDoor.Ab Go.Proofs.YtifepgigkmhdaaaDoor.Rk Go.Proofs.YtifepgigkmhdaaaDoor.Rx Go.Proofs.YtifepgigkmhdaaaDoor.Ac Go.Proofs.YtifepgigkmhdaaaDoor.Ad Go.Proofs.YtifepgigkmhdaaaDoor.Ae Go.Proofs.YtifepgigkmhdaaaDoor.Af
open Go.Proofs.YtifepgigkmhdaaaDoor.Sn (Fst fst_keep)
open Go.Proofs.YtifepgigkmhdaaaDoor.Sxa (Tbl tbl_keep)
open Go.Proofs.YtifepgigkmhdaaaDoor.Smc (macL)
attribute [local go_sem] kUpon_value kUpon_skip kUpon_enter
/-- What the law lays first. -/
structure PB (w : World) (s0 s1 m0 m1 : ByteArray) (Z : List Nat) (u : World) : Prop where
  below : Below w.heap.size w u
  sec : u.heap[w.heap.size]? = some (.cells #[.string s0, .string s1] 117 (0, 0))
  mods : u.heap[w.heap.size + 1]? = some (.cells #[.string m0, .string m1] 117 (0, 0))
  non : u.heap[w.heap.size + 1 + 1]? = some (.cells (u8s Z) 118 (0, 0))
theorem PB.up {w : World} {s0 s1 m0 m1 : ByteArray} {Z : List Nat} {u u' : World} (h : PB w s0 s1 m0 m1 Z u) (hb : Below u.heap.size u u') : PB w s0 s1 m0 m1 Z u' :=
  ⟨keepB hb (Nat.le_refl _) h.below, below_blk hb (heap_lt h.sec) h.sec, below_blk hb (heap_lt h.mods) h.mods, below_blk hb (heap_lt h.non) h.non⟩
theorem PB.drew {w : World} {s0 s1 m0 m1 : ByteArray} {Z : List Nat} {u : World} (h : PB w s0 s1 m0 m1 Z u) : PB w s0 s1 m0 m1 Z u.drew := ⟨h.below.drew, h.sec, h.mods, h.non⟩
theorem range_app {w : World} {B : Nat} {X Y : List Nat} {T : TypeId} {f : Nat × Nat} (h : w.heap[B]? = some (.cells (u8s (X ++ Y)) T f)) : w.rangeAt B 0 (b8 X) ∧ w.rangeAt B X.length (b8 Y) := by
  have e : b8 (X ++ Y) = b8 X ++ b8 Y := by unfold b8; rw [List.map_append]
  have h8 : w.rangeAt B 0 (b8 (X ++ Y)) := range8_all h
  rw [e] at h8
  refine ⟨fun j v hv => h8 j v ?_, fun j v hv => ?_⟩
  · have hj := (List.getElem?_eq_some_iff.1 hv).1
    rw [List.getElem?_append_left hj]; exact hv
  · have := h8 (X.length + j) v (by
      rw [List.getElem?_append_right (by rw [b8_length]; omega), b8_length, Nat.add_sub_cancel_left]; exact hv)
    rw [Nat.zero_add] at this
    exact this
theorem load_half {w : World} {B o n : Nat} {X : List Nat} (ty : TypeId) (d : TypeDesc) (h : w.rangeAt B o (b8 X)) (hu : Tryd.prog.underlying ty = some d) (hd : d.isRow = true) (hi : (Tryd.prog.info? ty).map (·.size) = some n) (hX : X.length = n) : Sem.run Tryd.prog (loadVar ty ⟨B, o, none⟩) w = .ok (.agg (u8s X)) w := by
  have h4 := run_loadVar_mid (P := Tryd.prog) w B o ty (b8 X) _ h hu hd (by rw [hi]; simp [b8_length, hX])
  exact h4
theorem start (w : World) (s0 s1 m0 m1 : ByteArray) (Z : List Nat) : PB w s0 s1 m0 m1 Z (((w.alloc (.cells #[.string s0, .string s1] 117)).alloc (.cells #[.string m0, .string m1] 117)).alloc (.cells (u8s Z) 118)) :=
  ⟨(((Below.refl w.heap.size w).alloc (Nat.le_refl _) _).alloc (by simp) _).alloc (by simp; omega) _, heap_old (heap_2a _ _ _) _, heap_old (heap_2b _ _ _) _, heap_3c _ _ _ _⟩
set_option maxHeartbeats 3200000 in
theorem walk (s0 s1 m0 m1 : ByteArray) (X Y : List Nat) (w : World) (hX : X.length = 16 ∧ All8 X) (hY : Y.length = 16 ∧ All8 Y) (hT : Tbl w) (hF : Fst w) :
    Calls Tryd.prog 13 #[.agg #[.string s0, .string s1], .agg #[.string m0, .string m1], .agg (u8s (X ++ Y))] w fun e w' => e = .returned (.bool true) ∧ Below w.heap.size w w' := by
  have hst := start w s0 s1 m0 m1 (X ++ Y)
  have H0 := hide hst
  have HH := hide (lets_c _ (tbl_keep hT hst.below (Nat.le_refl _)) (fst_keep hF hst.below (Nat.le_refl _)))
  have HTF := hide (fun (u : World) (hb : Below w.heap.size w u) => (⟨tbl_keep hT hb (Nat.le_refl _), fst_keep hF hb (Nat.le_refl _)⟩ : Tbl u ∧ Fst u))
  have HXY := hide (⟨hX, hY⟩ : _ ∧ _)
  clear hT hF hst hX hY
  obtain ⟨Z, hZ⟩ : ∃ Z, Z = X ++ Y := ⟨_, rfl⟩
  have HZ := hide hZ
  rw [← hZ] at H0 HH ⊢
  clear hZ
  obtain ⟨p0, hp0⟩ : ∃ p, s0.size = p := ⟨_, rfl⟩
  obtain ⟨p1, hp1⟩ : ∃ p, s1.size = p := ⟨_, rfl⟩
  obtain ⟨q0, hq0⟩ : ∃ p, m0.size = p := ⟨_, rfl⟩
  obtain ⟨q1, hq1⟩ : ∃ p, m1.size = p := ⟨_, rfl⟩
  go_enter Tryd.func13, Tryd.ntmps13
  go_wp2_with fail
  generalize (((w.alloc (.cells #[.string s0, .string s1] 117)).alloc (.cells #[.string m0, .string m1] 117)).alloc (.cells (u8s Z) 118)) = w0 at *
  refine HH.out.mono ?_
  rintro e w1 ⟨rfl, hb1⟩
  have H1 := hide (H0.out.up hb1)
  clear hb1 HH H0
  go_wp2_with fail
  go_loopw [11] (fun j wr => ∃ k : Nat, j = .int .i64 ((k : Nat) : Int) ∧ k ≤ 2 ∧ Hid (0 < k → p0 ≤ 200 ∧ q0 ≤ 100) ∧ Hid (1 < k → p1 ≤ 200 ∧ q1 ≤ 100) ∧ wr = w1) (fun j _ => 2 - (intOf j).toNat)
  case atStart => exact ⟨0, rfl, by omega, (show _ → _ from fun h => absurd h (by omega)), (show _ → _ from fun h => absurd h (by omega)), rfl⟩
  case round =>
    obtain ⟨k, rfl, hk, G0, G1, rfl⟩ := hrel
    have s0c := blk_cell (i := 0) H1.out.sec rfl
    have s1c := blk_cell (i := 1) H1.out.sec rfl
    have m0c := blk_cell (i := 0) H1.out.mods rfl
    have m1c := blk_cell (i := 1) H1.out.mods rfl
    obtain rfl | rfl | rfl : k = 0 ∨ k = 1 ∨ k = 2 := by omega
    · have d0 : decide (((0 : Nat) : Int) < 2) = true := by decide
      by_cases hp : 200 < p0
      · have d1 : decide ((200 : Int) < (p0 : Int)) = true := by simp; omega
        have d1' : decide (200 < p0) = true := by simp; omega
        clear hp
        go_wp2
        go_ret
        exact ⟨rfl, H1.out.below⟩
      · by_cases hq : 100 < q0
        · have d1 : decide ((200 : Int) < (p0 : Int)) = false := by simp; omega
          have d1' : decide (200 < p0) = false := by simp; omega
          have d2 : decide ((100 : Int) < (q0 : Int)) = true := by simp; omega
          have d2' : decide (100 < q0) = true := by simp; omega
          clear hp hq
          go_wp2
          go_ret
          exact ⟨rfl, H1.out.below⟩
        · have d1 : decide ((200 : Int) < (p0 : Int)) = false := by simp; omega
          have d1' : decide (200 < p0) = false := by simp; omega
          have d2 : decide ((100 : Int) < (q0 : Int)) = false := by simp; omega
          have d2' : decide (100 < q0) = false := by simp; omega
          have Hok : Hid (p0 ≤ 200 ∧ q0 ≤ 100) := hide (by omega)
          clear hp hq
          go_wp2
          go_roundw
          case rel => exact ⟨1, by go_num, by omega, (show _ → _ from fun _ => Hok.out), (show _ → _ from fun h => absurd h (by omega)), by trivial⟩
          case measure => simp [intOf]
    · have d0 : decide (((1 : Nat) : Int) < 2) = true := by decide
      by_cases hp : 200 < p1
      · have d1 : decide ((200 : Int) < (p1 : Int)) = true := by simp; omega
        have d1' : decide (200 < p1) = true := by simp; omega
        clear hp
        go_wp2
        go_ret
        exact ⟨rfl, H1.out.below⟩
      · by_cases hq : 100 < q1
        · have d1 : decide ((200 : Int) < (p1 : Int)) = false := by simp; omega
          have d1' : decide (200 < p1) = false := by simp; omega
          have d2 : decide ((100 : Int) < (q1 : Int)) = true := by simp; omega
          have d2' : decide (100 < q1) = true := by simp; omega
          clear hp hq
          go_wp2
          go_ret
          exact ⟨rfl, H1.out.below⟩
        · have d1 : decide ((200 : Int) < (p1 : Int)) = false := by simp; omega
          have d1' : decide (200 < p1) = false := by simp; omega
          have d2 : decide ((100 : Int) < (q1 : Int)) = false := by simp; omega
          have d2' : decide (100 < q1) = false := by simp; omega
          have Hok : Hid (p1 ≤ 200 ∧ q1 ≤ 100) := hide (by omega)
          clear hp hq
          go_wp2
          go_roundw
          case rel => exact ⟨2, by go_num, by omega, (show _ → _ from fun _ => G0.out (by omega)), (show _ → _ from fun _ => Hok.out), by trivial⟩
          case measure => simp [intOf]
    · have d0 : decide (((2 : Nat) : Int) < 2) = false := by decide
      obtain ⟨S0, a8, ae, al⟩ := strN_of s0
      obtain ⟨S1, b8', bs', bl⟩ := strN_of s1
      obtain ⟨M0, c8, cs', cl⟩ := strN_of m0
      obtain ⟨M1, d8, ds, dl⟩ := strN_of m1
      have g0 := G0.out (by omega)
      have g1 := G1.out (by omega)
      have hX := HXY.out.1
      have hY := HXY.out.2
      obtain ⟨A0, hA0⟩ : ∃ A, A = macL S0 (X ++ M0) := ⟨_, rfl⟩
      obtain ⟨A1, hA1⟩ : ∃ A, A = macL S1 (Y ++ M1) := ⟨_, rfl⟩
      have h0l : A0.length = 32 := by rw [hA0]; rfl
      have h1l : A1.length = 32 := by rw [hA1]; rfl
      have HA0 := hide (fun (u : World) (hb : Below w.heap.size w u) => ans_c S0 M0 X u a8 c8 hX.2 hX.1 (by omega) (by omega) (HTF.out u hb).1 (HTF.out u hb).2)
      have HA1 := hide (fun (u : World) (hb : Below w.heap.size w u) => ans_c S1 M1 Y u b8' d8 hY.2 hY.1 (by omega) (by omega) (HTF.out u hb).1 (HTF.out u hb).2)
      have HR0 := hide (fun (u : World) => refans_c S0 M0 X u a8 c8 hX.2 hX.1 (by omega) (by omega))
      have HR1 := hide (fun (u : World) => refans_c S1 M1 Y u b8' d8 hY.2 hY.1 (by omega) (by omega))
      rw [← ae, ← cs', ← hA0] at HA0 HR0
      rw [← bs', ← ds, ← hA1] at HA1 HR1
      have hrZ := fun (u : World) (h : u.heap[w.heap.size + 1 + 1]? = some (.cells (u8s Z) 118 (0, 0))) => range_app (X := X) (Y := Y) (by rw [HZ.out] at h; exact h)
      have HrZ := hide hrZ
      have HXl := hide hX.1
      have HYl := hide hY.1
      rw [hX.1] at HrZ
      have hq := fun u : World => sum_eq A0 A1 h0l h1l u
      obtain ⟨q, hqq⟩ : ∃ q : Bool, q = decide (A0 = A1) := ⟨_, rfl⟩
      rw [← hqq] at hq
      have hqe : (q == q) = true := by simp
      clear hA0 hA1 ae bs' cs' ds hqq g0 g1 hX hY al bl cl dl a8 b8' c8 d8 h0l h1l hrZ G0 G1 s0c s1c m0c m1c hp0 hp1 hq0 hq1
      clear HZ HXY HTF
      go_wp2_with fail
      refine wp_region_keep (PB w s0 s1 m0 m1 Z) (by kernel_rfl) (by kernel_rfl) H1.out.drew ?_
      repeat (first
        | (refine keep_step (v := .agg (u8s X)) (by rfl) (fun u K hS hK => kUpon_load_mid 98 (.tmp 31) rfl (w.heap.size + 1 + 1) 0 _ rfl (load_half 98 _ (HrZ.out u hS.non).1 Tryd.underlying98 rfl infoN HXl.out) (hK _ hS)) ?_
           simp only [Act.put, List.setIfInBounds_toArray, List.set_cons_zero, List.set_cons_succ])
        | (refine keep_step (v := .agg (u8s Y)) (by rfl) (fun u K hS hK => kUpon_load_mid 98 (.tmp 38) rfl (w.heap.size + 1 + 1) 16 _ rfl (load_half 98 _ (HrZ.out u hS.non).2 Tryd.underlying98 rfl infoN HYl.out) (hK _ hS)) ?_
           simp only [Act.put, List.setIfInBounds_toArray, List.set_cons_zero, List.set_cons_succ])
        | (refine keep_step (v := ?_) (by rfl) (fun u K hS hK => ?_) ?_
           rotate_left
           · have s0c := blk_cell (i := 0) hS.sec rfl
             have s1c := blk_cell (i := 1) hS.sec rfl
             have m0c := blk_cell (i := 0) hS.mods rfl
             have m1c := blk_cell (i := 1) hS.mods rfl
             (go_simp; first
               | (go_at_call 45; (with_reducible refine Calls.mono (HA0.out _ hS.below) ?_); rintro e u2 ⟨rfl, hu⟩; exact hK _ (hS.up hu))
               | (go_at_call 45; (with_reducible refine Calls.mono (HA1.out _ hS.below) ?_); rintro e u2 ⟨rfl, hu⟩; exact hK _ (hS.up hu))
               | (with_reducible exact hK _ hS))
           simp only [Act.put, List.setIfInBounds_toArray, List.set_cons_zero, List.set_cons_succ]))
      refine keep_nil (fun w2 hS2 => ?_)
      have H2 := hide hS2
      clear hS2 H1 HA0 HA1
      go_wp2_with fail
      refine wp_region_keep (PB w s0 s1 m0 m1 Z) (by kernel_rfl) (by kernel_rfl) H2.out.drew ?_
      repeat (first
        | (refine keep_step (v := .agg (u8s X)) (by rfl) (fun u K hS hK => kUpon_load_mid 98 (.tmp 47) rfl (w.heap.size + 1 + 1) 0 _ rfl (load_half 98 _ (HrZ.out u hS.non).1 Tryd.underlying98 rfl infoN HXl.out) (hK _ hS)) ?_
           simp only [Act.put, List.setIfInBounds_toArray, List.set_cons_zero, List.set_cons_succ])
        | (refine keep_step (v := .agg (u8s Y)) (by rfl) (fun u K hS hK => kUpon_load_mid 98 (.tmp 54) rfl (w.heap.size + 1 + 1) 16 _ rfl (load_half 98 _ (HrZ.out u hS.non).2 Tryd.underlying98 rfl infoN HYl.out) (hK _ hS)) ?_
           simp only [Act.put, List.setIfInBounds_toArray, List.set_cons_zero, List.set_cons_succ])
        | (refine keep_step (v := ?_) (by rfl) (fun u K hS hK => ?_) ?_
           rotate_left
           · have s0c := blk_cell (i := 0) hS.sec rfl
             have s1c := blk_cell (i := 1) hS.sec rfl
             have m0c := blk_cell (i := 0) hS.mods rfl
             have m1c := blk_cell (i := 1) hS.mods rfl
             (go_simp; first
               | (go_at_call 46; (with_reducible refine Calls.mono (HR0.out _) ?_); rintro e u2 ⟨rfl, hu⟩; exact hK _ (hS.up hu))
               | (go_at_call 46; (with_reducible refine Calls.mono (HR1.out _) ?_); rintro e u2 ⟨rfl, hu⟩; exact hK _ (hS.up hu))
               | (with_reducible exact hK _ hS))
           simp only [Act.put, List.setIfInBounds_toArray, List.set_cons_zero, List.set_cons_succ]))
      refine keep_nil (fun w3 hS3 => ?_)
      have HB3 := hide hS3.below
      clear hS3
      go_wp2
      go_ret
      exact ⟨rfl, HB3.out⟩
end Go.Proofs.YtifepgigkmhdaaaDoor.AuthPartsW
