/- What the laws of layer 9 look at first. -/
import Derived.Test.YtifepgigkmhdaaaDoorPe
import Derived.Test.YtifepgigkmhdaaaDoorEu
import Derived.Test.YtifepgigkmhdaaaDoorEi
namespace Go.Proofs.YtifepgigkmhdaaaDoor.Pf
set_option linter.unusedVariables false
set_option linter.unusedSimpArgs false
set_option maxRecDepth 100000
open Go.ChangeShapes Go.WideShapes Go.RowKit
open Go.Proofs.YtifepgigkmhdaaaDoor.Wu Go.Proofs.YtifepgigkmhdaaaDoor.Pm Go.Proofs.YtifepgigkmhdaaaDoor.Pc Go.Proofs.YtifepgigkmhdaaaDoor.Pl Go.Proofs.YtifepgigkmhdaaaDoor.Pd Go.Proofs.YtifepgigkmhdaaaDoor.Pe Go.Proofs.YtifepgigkmhdaaaDoor.Er Go.Proofs.YtifepgigkmhdaaaDoor.Eu Go.Proofs.YtifepgigkmhdaaaDoor.Ei
def RetT (w : World) (e : Ending) (w' : World) : Prop := e = .returned (.bool true) ∧ Below w.heap.size w w'
/-- What Check gives, asked for its number and place. -/
theorem Chk.some {w w' : World} {e : Ending} {p : Nat} (h : Chk w (some p) e w') : ∃ b, e = .returned (.iface 124 (.pointer (some ⟨b, 0, none⟩))) ∧ w'.heap[b]? = some (.cells #[.int .i64 ((p : Nat) : Int), .int .i64 90] 30 (0, 0)) ∧ Below w.heap.size w w' := by
  obtain ⟨h1 | ⟨p', b, hp, h2, h3⟩, hb⟩ := h
  · exact absurd h1.1 (by simp)
  · injection hp with hp
    subst hp
    exact ⟨b, h2, h3, hb⟩
theorem Chk.none {w w' : World} {e : Ending} (h : Chk w none e w') : e = .returned .nilIface ∧ Below w.heap.size w w' := by
  obtain ⟨h1 | ⟨p', b, hp, _⟩, hb⟩ := h
  · exact ⟨h1.2, hb⟩
  · exact absurd hp (by simp)
set_option maxHeartbeats 1600000 in
theorem checks_c (w : World) (he : Et w) : Calls Tryd.prog 36 #[] w (RetT w) := by
  have HE : Hid (∀ u, Below w.heap.size w u → Et u) := hide (fun u hu => he.below hu (Nat.le_refl _))
  have H1 : Hid (∀ u, Calls Tryd.prog 66 #[.string ⟨#[97, 47, 47, 98]⟩] u (Chk u (some 2))) := hide (fun u => check_c [97, 47, 47, 98] u (by decide))
  have H2 : Hid (∀ u, Calls Tryd.prog 66 #[.string ⟨#[97, 47, 98, 46, 99]⟩] u (Chk u none)) := hide (fun u => check_c [97, 47, 98, 46, 99] u (by decide))
  clear he
  go_enter Tryd.func36, Tryd.ntmps36
  go_wp2_with fail
  refine (H1.out w).mono ?_
  intro e w1 hc1
  obtain ⟨b, rfl, hb, hb1⟩ := Chk.some hc1
  clear hc1
  have HB1 := hide hb1
  have Hb := hide hb
  clear hb1 hb
  go_wp2_with fail
  refine (H2.out w1).mono ?_
  intro e w2 hc2
  obtain ⟨rfl, hb2⟩ := Chk.none hc2
  clear hc2
  have HB2 := hide (keepB hb2 (Nat.le_refl _) HB1.out)
  have Hb2 := hide (below_blk hb2 (heap_lt Hb.out) Hb.out)
  clear hb2 HB1 Hb
  go_wp2_with fail
  refine (is_FE b 2 90 90 true rfl _ _ w2 Hb2.out).mono ?_
  rintro e w3 ⟨rfl, rfl⟩
  go_wp2_with fail
  refine (place_c _ 90 2 w3 (.inr (.inr ⟨b, _, _, rfl, Hb2.out⟩)) (HE.out w3 HB2.out)).mono ?_
  rintro e w4 ⟨rfl, hb4⟩
  have HB4 := hide (keepB hb4 (Nat.le_refl _) HB2.out)
  clear hb4
  go_wp2
  go_ret
  exact ⟨rfl, HB4.out⟩
end Go.Proofs.YtifepgigkmhdaaaDoor.Pf
