/- The Reader: its cells; sound, fail, Read. -/
import Derived.Test.YtkinpbhbgeiflaaDoorQh
import Derived.Deep.QuietTactic
import Derived.BigQuiet
import Derived.IntWalk
namespace Go.Proofs.YtkinpbhbgeiflaaDoor.Cr
set_option linter.unusedVariables false
set_option linter.unusedSimpArgs false
set_option maxRecDepth 100000
open Go.ChangeShapes Go.WideShapes Go.ChangeAt Go.RowKit
open Go.Proofs.YtkinpbhbgeiflaaDoor.Wu Go.Proofs.YtkinpbhbgeiflaaDoor.Sm Go.Proofs.YtkinpbhbgeiflaaDoor.Sh Go.Proofs.YtkinpbhbgeiflaaDoor.Ba Go.Proofs.YtkinpbhbgeiflaaDoor.Bp Go.Proofs.YtkinpbhbgeiflaaDoor.Bq Go.Proofs.YtkinpbhbgeiflaaDoor.Cm Go.Proofs.YtkinpbhbgeiflaaDoor.Cn

/-- A reader in block g: its bytes' slice, where it is, what went wrong and where. -/
def Rd (w : World) (g : Nat) (a : Option Addr) (m c : Nat) (at_ fa fe : Int) : Prop := w.heap[g]? = some (.cells #[.slice a m c, .int .i64 at_, .int .i64 fa, .int .i64 fe] 174 (0, 0))
theorem Rd.cells {w : World} {g : Nat} {a : Option Addr} {m c : Nat} {at_ fa fe : Int} (h : Rd w g a m c at_ fa fe) : w.cell? ⟨g, 0, none⟩ = some (.slice a m c) ∧ w.cell? ⟨g, 1, none⟩ = some (.int .i64 at_) ∧ w.cell? ⟨g, 2, none⟩ = some (.int .i64 fa) ∧ w.cell? ⟨g, 3, none⟩ = some (.int .i64 fe) :=
  ⟨blk_cell h rfl, blk_cell h rfl, blk_cell h rfl, blk_cell h rfl⟩
theorem Rd.free {w : World} {g : Nat} {a : Option Addr} {m c : Nat} {at_ fa fe : Int} (h : Rd w g a m c at_ fa fe) (i : Nat) : w.frozen? ⟨g, i, none⟩ = false := blk_free h
theorem Rd.setAt {w : World} {g : Nat} {a : Option Addr} {m c : Nat} {at_ fa fe : Int} (h : Rd w g a m c at_ fa fe) (x : Int) : Rd (w.setCell ⟨g, 1, none⟩ (.int .i64 x)) g a m c x fa fe := by
  have := blk_set (i := 1) h (.int .i64 x)
  unfold Rd
  rw [this]
  simp
theorem Rd.setFault {w : World} {g : Nat} {a : Option Addr} {m c : Nat} {at_ fa fe : Int} (h : Rd w g a m c at_ fa fe) (x y : Int) : Rd ((w.setCell ⟨g, 2, none⟩ (.int .i64 x)).setCell ⟨g, 3, none⟩ (.int .i64 y)) g a m c at_ x y := by
  have := blk_set (i := 3) (blk_set (i := 2) h (.int .i64 x)) (.int .i64 y)
  unfold Rd
  rw [this]
  simp
theorem read_c (a : Option Addr) (m c : Nat) (w : World) :
    Calls Tryd.prog 63 #[.slice a m c] w fun e w' => e = .returned (.pointer (some ⟨w.heap.size, 0, none⟩)) ∧ w.alloc (.cells #[.slice a m c, .int .i64 0, .int .i64 0, .int .i64 0] 174) = w' := by
  go_enter Tryd.func63, Tryd.ntmps63
  go_wp2
  go_ret
  exact ⟨rfl, rfl⟩
theorem sound_c (g : Nat) (a : Option Addr) (m c : Nat) (at_ fa fe : Int) (w : World) (h : Rd w g a m c at_ fa fe) :
    Calls Tryd.prog 97 #[.pointer (some ⟨g, 0, none⟩)] w fun e w' => e = .returned (.bool (fe == 0)) ∧ w = w' := by
  obtain ⟨c0, c1, c2, c3⟩ := h.cells
  go_enter Tryd.func97, Tryd.ntmps97
  go_wp2
  go_ret
  exact ⟨rfl, rfl⟩
theorem fail_c (g : Nat) (a : Option Addr) (m c : Nat) (at_ fa fe x y : Int) (w : World) (h : Rd w g a m c at_ fa fe) :
    Calls Tryd.prog 99 #[.pointer (some ⟨g, 0, none⟩), .int .i64 x, .int .i64 y] w fun e w' => e = .returned (.tuple #[]) ∧ Rd w' g a m c at_ x y ∧ w.grownBy w' (some g) := by
  obtain ⟨c0, c1, c2, c3⟩ := h.cells
  have f2 := h.free 2
  have f3 := h.free 3
  have H := hide h
  clear h
  go_enter Tryd.func99, Tryd.ntmps99
  go_wp2
  exact bodyPost_end (v := .tuple #[]) (by simp [results, Tryd.results99]) rfl ⟨rfl, H.out.setFault x y, grown_setCell (grown_setCell (World.grownBy.refl w (some g)) 2 _) 3 _⟩
/-- What a number's bytes come to. -/
inductive NumR where
  | ok (n size : Nat)
  | bad (code : Nat)
def numP : List Nat → Nat → Nat → NumR
  | [], i, n => .bad 30
  | x :: X, i, n => if i = 6 ∨ (0 < i ∧ x = 0) then .bad 31 else if 128 ≤ x then numP X (i + 1) (n + x % 128 * 2 ^ (7 * i)) else if 1099511627776 < n + x % 128 * 2 ^ (7 * i) then .bad 1 else .ok (n + x % 128 * 2 ^ (7 * i)) (i + 1)
end Go.Proofs.YtkinpbhbgeiflaaDoor.Cr
