/- slices.Insert on bytes, whole. -/
import Derived.Test.YtkinpbhbgeiflaaDoorIh
namespace Go.Proofs.YtkinpbhbgeiflaaDoor.Ij
set_option linter.unusedVariables false
set_option linter.unusedSimpArgs false
set_option maxRecDepth 100000
open Go.ChangeShapes Go.WideShapes Go.ChangeAt Go.RowKit
open Go.Proofs.YtkinpbhbgeiflaaDoor.Wu Go.Proofs.YtkinpbhbgeiflaaDoor.Sm Go.Proofs.YtkinpbhbgeiflaaDoor.Sh Go.Proofs.YtkinpbhbgeiflaaDoor.Ba Go.Proofs.YtkinpbhbgeiflaaDoor.Bp Go.Proofs.YtkinpbhbgeiflaaDoor.Bz Go.Proofs.YtkinpbhbgeiflaaDoor.Is Go.Proofs.YtkinpbhbgeiflaaDoor.Ig Go.Proofs.YtkinpbhbgeiflaaDoor.Ih
/-- The row A, V, S in g or in a new block; all else stands; what was A in g stands. -/
def InsPost (w : World) (g n m : Nat) (A V S : List Nat) (e : Ending) (w' : World) : Prop :=
  ∃ g' cap', e = .returned (.slice (some ⟨g', 0, none⟩) (n + m) cap') ∧ Dst w' g' (n + m) cap' (A ++ V ++ S) ∧ w.grownBy w' (some g) ∧ (g' = g ∨ w.heap.size ≤ g') ∧ (g' ≠ g → w'.heap[g]? = w.heap[g]?)
theorem insert_mid (g n cap i vb m vc : Nat) (A S V : List Nat) (w : World) (hd : Dst w g n cap (A ++ S)) (hv : Dst w vb m vc V) (hne : vb ≠ g) (hm : 0 < m) (hi : A.length = i) (hlt : i < n) (hbig : n + m ≤ 70368744177664) :
    Calls Tryd.prog 119 #[.slice (some ⟨g, 0, none⟩) n cap, .int .i64 (i : Int), .slice (some ⟨vb, 0, none⟩) m vc] w (InsPost w g n m A V S) := by
  have hl := hd.len
  rw [List.length_append] at hl
  by_cases hroom : n + m ≤ cap
  · refine (insert_shift g n cap i vb m vc A S V w hd hv hne hm hi hlt hroom).mono ?_
    rintro e w' ⟨rfl, rfl⟩
    refine ⟨g, cap, rfl, shift_dst hd hi hv.all hv.len hroom, ?_, .inl rfl, fun h => absurd rfl h⟩
    exact grown_trans (grown_trans (grown_drew (World.grownBy.refl w (some g))) (grown_setCells _ _ _)) (grown_setCells _ _ _)
  · refine (insert_grow g n cap i vb m vc A S V w hd hv hm hi hlt (by omega) hbig).mono ?_
    rintro e w' ⟨cap', w1, d1, d2, rfl, hd1, hb, rfl⟩
    have hB : Below w.heap.size w ((((w1.drewN d1).setCells w.heap.size i (b8 V)).drewN d2).setCells w.heap.size (i + m) (b8 S)) :=
      Go.Proofs.YtkinpbhbgeiflaaDoor.Ba.below_setCells _ _ _ _ (below_drewN (Go.Proofs.YtkinpbhbgeiflaaDoor.Ba.below_setCells _ _ _ _ (below_drewN hb d1) (Nat.le_refl _)) d2) (Nat.le_refl _)
    refine ⟨w.heap.size, cap', rfl, grow_dst hd1 hi (fun x hx => hd.all x (List.mem_append_right _ hx)) hv.all hv.len (by omega), ?_, .inr (Nat.le_refl _), fun _ => hB.block g hd.lt⟩
    exact ⟨hB.os, hB.tape, hB.output, hB.size, fun k hk _ => hB.block k hk⟩
set_option maxHeartbeats 1600000 in
set_option maxRecDepth 100000 in
theorem insert_end (g n cap vb m vc : Nat) (A V : List Nat) (w : World) (hd : Dst w g n cap A) (hv : Dst w vb m vc V) (hm : 0 < m) (hbig : n + m ≤ 70368744177664) :
    Calls Tryd.prog 119 #[.slice (some ⟨g, 0, none⟩) n cap, .int .i64 (n : Int), .slice (some ⟨vb, 0, none⟩) m vc] w fun e w' => ∃ g' cap', e = .returned (.slice (some ⟨g', 0, none⟩) (n + m) cap') ∧ Dst w' g' (n + m) cap' (A ++ V) ∧ w.grownBy w' (some g) ∧ (g' = g ∨ g' = w.heap.size) ∧ w'.rangeAt g 0 (b8 A) := by
  have hmx := hd.max
  have hf := hd.fit
  unfold maxLen at hmx
  have HD := hide hd
  have HS := hide hv.src
  clear hd hv
  have e1 : ¬ ((m : Int) = 0) := by omega
  go_enter Tryd.func119, Tryd.ntmps119
  go_wp2_with (refine wpList_append_dst rfl _ _ rfl g n cap A (some ⟨vb, 0, none⟩) m vc V rfl rfl HD.out HS.out hbig (fun h => by cases h) ?_)
  all_goals
    intro g' cap' w' HD2 HG hgg HK
    refine of_hid ?_
    go_wp2
    go_ret
    exact ⟨g', cap', rfl, HD2.out, HG.out, hgg, HK.out⟩
end Go.Proofs.YtkinpbhbgeiflaaDoor.Ij
