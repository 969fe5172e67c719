/- The feed's stop. -/
import Derived.Test.YtpaijhmbfljfmaaDoorGc
namespace Go.Proofs.YtpaijhmbfljfmaaDoor.Gd
set_option linter.unusedVariables false
set_option linter.unusedSimpArgs false
set_option maxRecDepth 100000
open Go.ChangeShapes Go.WideShapes Go.ChangeAt Go.RowKit
open Go.Proofs.YtpaijhmbfljfmaaDoor.Wu Go.Proofs.YtpaijhmbfljfmaaDoor.Sm Go.Proofs.YtpaijhmbfljfmaaDoor.Sh Go.Proofs.YtpaijhmbfljfmaaDoor.Ba Go.Proofs.YtpaijhmbfljfmaaDoor.Bp Go.Proofs.YtpaijhmbfljfmaaDoor.Bq Go.Proofs.YtpaijhmbfljfmaaDoor.Er Go.Proofs.YtpaijhmbfljfmaaDoor.Eu Go.Proofs.YtpaijhmbfljfmaaDoor.Ei Go.Proofs.YtpaijhmbfljfmaaDoor.Cv Go.Proofs.YtpaijhmbfljfmaaDoor.Cw Go.Proofs.YtpaijhmbfljfmaaDoor.Rk Go.Proofs.YtpaijhmbfljfmaaDoor.Fh Go.Proofs.YtpaijhmbfljfmaaDoor.Ga Go.Proofs.YtpaijhmbfljfmaaDoor.Gb Go.Proofs.YtpaijhmbfljfmaaDoor.Gc
attribute [local go_sem] kUpon_value kUpon_skip kUpon_enter
variable {w w0 : World} {F : Nat} {v : Value} {R : Nat} {fa fe : Int}
set_option maxHeartbeats 1600000 in
theorem stop_bad (h : Fc4 w F v R fa fe) (code place : Int) (why rest : Value) (hw : Flt w0 code place why w) (he : Et w) (hc : code ≠ 30) (hp0 : 0 ≤ place) (hp1 : place ≤ 70368744177664) (hR : R ≤ 70368744177664) :
    Calls Tryd.prog 66 #[.pointer (some ⟨F, 0, none⟩), rest, why] w fun e w' => e = .returned (.tuple #[]) ∧ Fc4 w' F (.slice none 0 0) R ((R : Int) + place) code ∧ w.grownBy w' (some F) := by
  have HI := hide hw.isErr
  obtain ⟨b, T, fz, rfl, hb, hb0⟩ := hw
  have HIs := hide (is_FE b place code 30 false (by simp [hc]) T fz w hb)
  have HF := hide h
  have HE := hide he
  clear h he hc hb hb0
  go_enter Tryd.func66, Tryd.ntmps66
  go_wp2_with fail
  refine HIs.out.mono ?_
  rintro e w1 ⟨rfl, rfl⟩
  clear HIs
  go_wp2_with fail
  have mixed : Tryd.prog.follows Departure.mixedOrders = true := by kernel_rfl
  have HN := hide (fun u (hu : Below w1.heap.size w1 u) => number_c _ code place u (HI.out.below hu) (HE.out.below hu (Nat.le_refl _)))
  have HP := hide (fun u (hu : Below w1.heap.size w1 u) => place_c _ code place u (HI.out.below hu) (HE.out.below hu (Nat.le_refl _)))
  have hw : IntKind.i64.wrap ((R : Int) + place) = (R : Int) + place := IntWalk.i64_in _ (by omega)
  refine wp_region_keep_tail 13 (fun u => Below w1.heap.size w1 u) mixed (by kernel_rfl) (Below.refl _ _).drew ?_
  simp only [List.take_succ_cons, List.take_zero]
  repeat (first
    | (refine keep_step (v := ?_) (by rfl) (fun u K hS hK => ?_) ?_
       rotate_left
       · obtain ⟨c0, c1, c2, c3⟩ := (HF.out.below hS).cells
         (go_simp; first
           | (with_reducible exact hK _ hS)
           | (go_at_call 27; (with_reducible refine Calls.mono (HN.out u hS) ?_); rintro e u2 ⟨rfl, hb⟩; exact hK _ (keepB hb (Nat.le_refl _) hS))
           | (go_at_call 28; (with_reducible refine Calls.mono (HP.out u hS) ?_); rintro e u2 ⟨rfl, hb⟩; exact hK _ (keepB hb (Nat.le_refl _) hS)))
       simp only [Act.put, List.setIfInBounds_toArray, List.set_cons_zero, List.set_cons_succ]))
  refine keep_nil (fun w3 hS3 => ?_)
  simp only [List.drop_succ_cons, List.drop_zero]
  have HF3 := hide (HF.out.below hS3)
  have HG3 := hide (below_grown hS3 (some F))
  obtain ⟨c0, c1, c2, c3⟩ := HF3.out.cells
  have f0 := HF3.out.free 0
  have f2 := HF3.out.free 2
  have f3 := HF3.out.free 3
  clear hS3 HN HP HI HE HF
  go_wp2
  exact bodyPost_end (v := .tuple #[]) (by simp [results, Tryd.results66]) rfl ⟨rfl, (HF3.out.setFault _ _).setHeld _, grown_setCell (grown_setCell (grown_setCell HG3.out 2 _) 3 _) 0 _⟩
theorem stop_keep {a ra : Option Addr} {m c rm rc : Nat} (h : Fc4 w F (.slice a m c) R fa fe) (place : Int) (why : Value) (hw : Flt w0 30 place why w) (hm : m ≤ rm) :
    Calls Tryd.prog 66 #[.pointer (some ⟨F, 0, none⟩), .slice ra rm rc, why] w fun e w' => e = .returned (.tuple #[]) ∧ w = w' := by
  obtain ⟨b, T, fz, rfl, hb, hb0⟩ := hw
  have HIs := hide (is_FE b place 30 30 true (by simp) T fz w hb)
  obtain ⟨c0, c1, c2, c3⟩ := h.cells
  have d1 : decide ((rm : Int) < (m : Int)) = false := by simp; omega
  have d1' : decide (rm < m) = false := by simp; omega
  clear h hb hb0
  go_enter Tryd.func66, Tryd.ntmps66
  go_wp2_with fail
  refine HIs.out.mono ?_
  rintro e w1 ⟨rfl, rfl⟩
  clear HIs
  go_wp2
  exact bodyPost_end (v := .tuple #[]) (by simp [results, Tryd.results66]) rfl ⟨rfl, rfl⟩
theorem stop_cut {a : Option Addr} {ra : Addr} {m c rm rc : Nat} {L : List Nat} (h : Fc4 w F (.slice a m c) R fa fe) (place : Int) (why : Value) (hw : Flt w0 30 place why w) (hm : rm < m) (hs : SrcB w (some ra) rm L) (hb : rm ≤ 70368744177664) :
    Calls Tryd.prog 66 #[.pointer (some ⟨F, 0, none⟩), .slice (some ra) rm rc, why] w fun e w' => e = .returned (.tuple #[]) ∧ ∃ g cap, Fc4 w' F (.slice (some ⟨g, 0, none⟩) rm cap) R fa fe ∧ w.heap.size ≤ g ∧ Dst w' g rm cap L ∧ w.grownBy w' (some F) := by
  obtain ⟨b, T, fz, rfl, hbk, hb0⟩ := hw
  have HIs := hide (is_FE b place 30 30 true (by simp) T fz w hbk)
  obtain ⟨c0, c1, c2, c3⟩ := h.cells
  have HF := hide h
  have HC := hide (clone_some ra rm rc L w hs hb)
  have d1 : decide ((rm : Int) < (m : Int)) = true := by simp; omega
  have d1' : decide (rm < m) = true := by simp; omega
  clear h hbk hb0 hs
  go_enter Tryd.func66, Tryd.ntmps66
  go_wp2_with fail
  refine HIs.out.mono ?_
  rintro e w1 ⟨rfl, rfl⟩
  clear HIs
  go_wp2_with fail
  refine HC.out.mono ?_
  rintro e w2 ⟨g, cap, rfl, hg, hd, hb2⟩
  have HF2 := hide (HF.out.below hb2)
  have HD2 := hide hd
  have HG2 := hide (below_grown hb2 (some F))
  have hFw := heap_lt HF.out
  clear HC hd hb2 HF c0 c1 c2 c3
  obtain ⟨c0, c1, c2, c3⟩ := HF2.out.cells
  have f0 := HF2.out.free 0
  go_wp2
  exact bodyPost_end (v := .tuple #[]) (by simp [results, Tryd.results66]) rfl ⟨rfl, g, cap, HF2.out.setHeld _, hg, HD2.out.kept (grown_setCell (World.grownBy.refl _ (some F)) 0 _) (by omega), grown_setCell HG2.out 0 _⟩
end Go.Proofs.YtpaijhmbfljfmaaDoor.Gd
