/- The feed: its cells; broken, Held, Read, Err, End, stop. -/
import Derived.Test.YtpaijhmbfljfmaaDoorGb
import Derived.Test.YtpaijhmbfljfmaaDoorEi
namespace Go.Proofs.YtpaijhmbfljfmaaDoor.Gc
set_option linter.unusedVariables false
set_option linter.unusedSimpArgs false
set_option maxRecDepth 100000
open Go.ChangeShapes Go.WideShapes Go.ChangeAt Go.RowKit
open Go.Proofs.YtpaijhmbfljfmaaDoor.Wu Go.Proofs.YtpaijhmbfljfmaaDoor.Sm Go.Proofs.YtpaijhmbfljfmaaDoor.Sh Go.Proofs.YtpaijhmbfljfmaaDoor.Ba Go.Proofs.YtpaijhmbfljfmaaDoor.Bp Go.Proofs.YtpaijhmbfljfmaaDoor.Bq Go.Proofs.YtpaijhmbfljfmaaDoor.Er Go.Proofs.YtpaijhmbfljfmaaDoor.Eu Go.Proofs.YtpaijhmbfljfmaaDoor.Cv Go.Proofs.YtpaijhmbfljfmaaDoor.Cw Go.Proofs.YtpaijhmbfljfmaaDoor.Rk Go.Proofs.YtpaijhmbfljfmaaDoor.Fh Go.Proofs.YtpaijhmbfljfmaaDoor.Ga Go.Proofs.YtpaijhmbfljfmaaDoor.Gb
attribute [local go_sem] kUpon_value kUpon_skip kUpon_enter
/-- A feed in plain numbers: what it holds, how much was read, what went wrong and where. -/
structure FS where
  held : List Nat
  read : Nat
  fa : Int
  fe : Int
/-- A feed's cells in block F. -/
def Fc4 (w : World) (F : Nat) (v : Value) (R : Nat) (fa fe : Int) : Prop := w.heap[F]? = some (.cells #[v, .int .i64 (R : Int), .int .i64 fa, .int .i64 fe] 43 (0, 0))
section
variable {w : World} {F : Nat} {v : Value} {R : Nat} {fa fe : Int}
theorem Fc4.cells (h : Fc4 w F v R fa fe) : w.cell? ⟨F, 0, none⟩ = some v ∧ w.cell? ⟨F, 1, none⟩ = some (.int .i64 (R : Int)) ∧ w.cell? ⟨F, 2, none⟩ = some (.int .i64 fa) ∧ w.cell? ⟨F, 3, none⟩ = some (.int .i64 fe) :=
  ⟨blk_cell h rfl, blk_cell h rfl, blk_cell h rfl, blk_cell h rfl⟩
theorem Fc4.free (h : Fc4 w F v R fa fe) (i : Nat) : w.frozen? ⟨F, i, none⟩ = false := blk_free h
theorem Fc4.setHeld (h : Fc4 w F v R fa fe) (x : Value) : Fc4 (w.setCell ⟨F, 0, none⟩ x) F x R fa fe := by
  have := blk_set (i := 0) h x
  unfold Fc4
  rw [this]
  simp
theorem Fc4.setRead (h : Fc4 w F v R fa fe) (x : Nat) : Fc4 (w.setCell ⟨F, 1, none⟩ (.int .i64 (x : Int))) F v x fa fe := by
  have := blk_set (i := 1) h (.int .i64 (x : Int))
  unfold Fc4
  rw [this]
  simp
theorem Fc4.setFault (h : Fc4 w F v R fa fe) (x y : Int) : Fc4 ((w.setCell ⟨F, 2, none⟩ (.int .i64 x)).setCell ⟨F, 3, none⟩ (.int .i64 y)) F v R x y := by
  have := blk_set (i := 3) (blk_set (i := 2) h (.int .i64 x)) (.int .i64 y)
  unfold Fc4
  rw [this]
  simp
theorem Fc4.below {w' : World} (h : Fc4 w F v R fa fe) (hb : Below w.heap.size w w') : Fc4 w' F v R fa fe := below_blk hb (heap_lt h) h
theorem broken_c (h : Fc4 w F v R fa fe) : Calls Tryd.prog 65 #[.pointer (some ⟨F, 0, none⟩)] w fun e w' => e = .returned (.bool (fe != 0)) ∧ w = w' := by
  obtain ⟨c0, c1, c2, c3⟩ := h.cells
  go_enter Tryd.func65, Tryd.ntmps65
  go_wp2
  go_ret
  exact ⟨rfl, rfl⟩
theorem held_c {a : Option Addr} {m c : Nat} (h : Fc4 w F (.slice a m c) R fa fe) : Calls Tryd.prog 23 #[.pointer (some ⟨F, 0, none⟩)] w fun e w' => e = .returned (.int .i64 (m : Int)) ∧ w = w' := by
  obtain ⟨c0, c1, c2, c3⟩ := h.cells
  go_enter Tryd.func23, Tryd.ntmps23
  go_wp2
  go_ret
  exact ⟨rfl, rfl⟩
theorem read_c (h : Fc4 w F v R fa fe) : Calls Tryd.prog 24 #[.pointer (some ⟨F, 0, none⟩)] w fun e w' => e = .returned (.int .i64 (R : Int)) ∧ w = w' := by
  obtain ⟨c0, c1, c2, c3⟩ := h.cells
  go_enter Tryd.func24, Tryd.ntmps24
  go_wp2
  go_ret
  exact ⟨rfl, rfl⟩
/-- An error by its number and place: none, or a Fault in a block of its own. -/
def ErrB (w : World) (code place : Int) (e : Ending) (w' : World) : Prop := Below w.heap.size w w' ∧ ∃ v, e = .returned v ∧ (code = 0 ∧ v = .nilIface ∨ code ≠ 0 ∧ Flt w code place v w')
theorem ErrB.isErr {w' : World} {code place : Int} {e : Ending} (h : ErrB w code place e w') : ∃ v, e = .returned v ∧ IsErr w' v code (if code = 0 then -1 else place) ∧ Below w.heap.size w w' := by
  obtain ⟨hb, v, he, h⟩ := h
  refine ⟨v, he, ?_, hb⟩
  rcases h with ⟨h4, h5⟩ | ⟨h4, h5⟩
  · rw [if_pos h4]; exact .inl ⟨h5, h4, rfl⟩
  · rw [if_neg h4]; exact h5.isErr
theorem err_c (h : Fc4 w F v R fa fe) : Calls Tryd.prog 30 #[.pointer (some ⟨F, 0, none⟩)] w (ErrB w fe fa) := by
  have HB := hide (broken_c h)
  obtain ⟨c0, c1, c2, c3⟩ := h.cells
  clear h
  by_cases hfe : fe = 0
  · subst hfe
    go_enter Tryd.func30, Tryd.ntmps30
    go_wp2_with fail
    refine HB.out.mono ?_
    rintro e w1 ⟨rfl, rfl⟩
    go_wp2
    go_ret
    exact ⟨Below.refl _ _, _, rfl, .inl ⟨rfl, rfl⟩⟩
  · have hb : (fe != 0) = true := by simp [hfe]
    rw [hb] at HB
    have Hfe := hide hfe
    clear hfe hb
    go_enter Tryd.func30, Tryd.ntmps30
    go_wp2_with fail
    refine HB.out.mono ?_
    rintro e w1 ⟨rfl, rfl⟩
    go_wp2
    go_ret
    exact ⟨below_new _ _, _, rfl, .inr ⟨Hfe.out, w.heap.size, _, _, rfl, heap_last _ _, Nat.le_refl _⟩⟩
def endE (s : FS) : Int := if s.fe = 0 ∧ 0 < s.held.length then 30 else s.fe
def endP (s : FS) : Int := if s.fe = 0 ∧ 0 < s.held.length then ((s.read + s.held.length : Nat) : Int) else s.fa
theorem end_c (s : FS) {a : Option Addr} {c : Nat} (h : Fc4 w F (.slice a s.held.length c) s.read s.fa s.fe) (hl : s.held.length ≤ 70368744177664) (hr : s.read ≤ 70368744177664) :
    Calls Tryd.prog 26 #[.pointer (some ⟨F, 0, none⟩)] w (ErrB w (endE s) (endP s)) := by
  obtain ⟨H, R, fa, fe⟩ := s
  simp only at h hl hr ⊢
  have HB := hide (broken_c h)
  have HE := hide (err_c h)
  have HF := hide h
  obtain ⟨c0, c1, c2, c3⟩ := h.cells
  clear h
  unfold endE endP
  simp only
  obtain ⟨m, hm⟩ : ∃ m, m = H.length := ⟨_, rfl⟩
  rw [← hm] at HF c0 hl ⊢
  clear hm
  by_cases hfe : fe = 0
  · subst hfe
    by_cases hm0 : 0 < m
    · have d1 : decide ((0 : Int) < (m : Int)) = true := by simp; omega
      have d1' : decide (0 < m) = true := by simp; omega
      rw [if_pos ⟨rfl, hm0⟩, if_pos ⟨rfl, hm0⟩]
      go_enter Tryd.func26, Tryd.ntmps26
      go_wp2_with fail
      refine HB.out.mono ?_
      rintro e w1 ⟨rfl, rfl⟩
      go_wp2_with fail
      have hw : IntKind.i64.wrap ((R : Int) + (m : Int)) = (R : Int) + (m : Int) := IntWalk.i64_in _ (by omega)
      have mixed : Tryd.prog.follows Departure.mixedOrders = true := by kernel_rfl
      refine wp_region_keep_tail 11 (fun u => ∃ k, u = w.drewN k) mixed (by kernel_rfl) ⟨1, rfl⟩ ?_
      simp only [List.take_succ_cons, List.take_zero]
      repeat (first
        | (refine keep_step (v := ?_) (by rfl) (fun u K hS hK => ?_) ?_
           rotate_left
           · obtain ⟨nn, rfl⟩ := hS
             have hF : Fc4 (w.drewN nn) F (.slice a m c) R fa 0 := HF.out
             obtain ⟨c0, c1, c2, c3⟩ := hF.cells
             (go_simp; exact hK _ ⟨nn, rfl⟩)
           simp only [Act.put, List.setIfInBounds_toArray, List.set_cons_zero, List.set_cons_succ]))
      refine keep_nil (fun w3 hS3 => ?_)
      obtain ⟨k3, rfl⟩ := hS3
      simp only [List.drop_succ_cons, List.drop_zero]
      have HB3 : Hid (Below w.heap.size w (w.drewN k3)) := hide (below_drewN (Below.refl _ _) k3)
      have hz : (w.drewN k3).heap.size = w.heap.size := rfl
      generalize w.drewN k3 = w3 at *
      go_wp2
      go_ret
      refine ⟨HB3.out.alloc HB3.out.size _, _, rfl, .inr ⟨by omega, w.heap.size, 41, (0, 0), rfl, ?_, Nat.le_refl _⟩⟩
      have := heap_last w3 (.cells #[.int .i64 ((R : Int) + (m : Int)), .int .i64 30] 41)
      rw [hz] at this
      rw [this]
      simp
    · have d1 : decide ((0 : Int) < (m : Int)) = false := by simp; omega
      have d1' : decide (0 < m) = false := by simp; omega
      rw [if_neg (fun h => hm0 h.2), if_neg (fun h => hm0 h.2)]
      go_enter Tryd.func26, Tryd.ntmps26
      go_wp2_with fail
      refine HB.out.mono ?_
      rintro e w1 ⟨rfl, rfl⟩
      go_wp2_with fail
      refine HE.out.mono ?_
      intro e w1 hE
      obtain ⟨hb, v, rfl, h⟩ := hE
      have HP := hide (show ErrB w 0 fa (.returned v) w1 from ⟨hb, v, rfl, h⟩)
      clear hb h
      go_wp2
      go_ret
      exact HP.out
  · have hb : (fe != 0) = true := by simp [hfe]
    rw [hb] at HB
    rw [if_neg (fun h => hfe h.1), if_neg (fun h => hfe h.1)]
    clear hfe hb
    go_enter Tryd.func26, Tryd.ntmps26
    go_wp2_with fail
    refine HB.out.mono ?_
    rintro e w1 ⟨rfl, rfl⟩
    go_wp2_with fail
    refine HE.out.mono ?_
    intro e w1 hE
    obtain ⟨hb, v, rfl, h⟩ := hE
    have HP := hide (show ErrB w fe fa (.returned v) w1 from ⟨hb, v, rfl, h⟩)
    clear hb h
    go_wp2
    go_ret
    exact HP.out
end
end Go.Proofs.YtpaijhmbfljfmaaDoor.Gc
