/- Opening an argument that is a frame. -/
import Derived.Test.YtkinpbhbgeiflaaDoorQa
import Derived.Deep.Strs
import Derived.WideShapes
namespace Go.Proofs.YtkinpbhbgeiflaaDoor.Fo
set_option linter.unusedVariables false
set_option linter.unusedSimpArgs false
set_option maxRecDepth 100000
open Go.RowKit Go.WideShapes Go.ChangeShapes Go.Deep
open Go.Proofs.YtkinpbhbgeiflaaDoor.Wu Go.Proofs.YtkinpbhbgeiflaaDoor.Sm Go.Proofs.YtkinpbhbgeiflaaDoor.Sh Go.Proofs.YtkinpbhbgeiflaaDoor.Ba Go.Proofs.YtkinpbhbgeiflaaDoor.Bo
/-- Data that came in. -/
def IsData (w : World) (a : Option Addr) (l c : Nat) (D : List Nat) : Prop := SrcB w a l D ∧ l ≤ c ∧ c ≤ 9223372036854775807 ∧ (a = none → l = 0)
theorem open_cells {H : Type} {enc : TypeId × Value → H} {w : World} {base fuel : Nat} {held : Bool} {cs : List Value} {x : DataW H × List MemPlace}
    (hf : DataW.trod enc Tryd.prog w base (fun _ => true) held fuel 40 cs = some x) :
    ∃ (k s : Int) (a : Option Addr) (l c : Nat) (D : List Nat), cs = [.int .i64 k, .int .i64 s, .slice a l c] ∧ IsData w a l c D := by
  obtain ⟨y0, y1, y2, n, _, hl, h0, h1, h2⟩ := trod_struct3 Tryd.underlying40 hf
  have e0 : Tryd.prog.cellsOf 3 = 1 := by kernel_rfl
  have e1 : Tryd.prog.cellsOf 22 = 1 := by kernel_rfl
  have e2 : Tryd.prog.cellsOf 40 = 3 := by kernel_rfl
  rw [e2] at hl
  simp only [e0, e1] at h0 h1 h2
  obtain ⟨k, hk, _, _⟩ := DataW.trod_int Tryd.underlying3 h0
  obtain ⟨s, hs, _, _⟩ := DataW.trod_int Tryd.underlying3 h1
  match cs, hl with
  | [c0, c1, c2], _ =>
    simp at hk hs h2
    subst hk hs
    rcases open_ints Tryd.underlying22 Tryd.underlying5 (by kernel_rfl) h2 with ⟨hcs, _⟩ | ⟨x, l, c, zs, hcs, _, hl, hm, hz, _, hcell, hwz⟩
    · simp at hcs
      subst hcs
      exact ⟨k, s, none, 0, 0, [], rfl, SrcB.nil w none, Nat.le_refl _, by omega, fun _ => rfl⟩
    · simp at hcs
      subst hcs
      obtain ⟨D, h1, h2, h3, h4⟩ := src_of_row (w := w) (a := some x) (len := l) (cap := c) (zs := zs) (.inr ⟨x, rfl, hl, hm, by simpa using hz, hcell, hwz⟩)
      exact ⟨k, s, some x, l, c, D, rfl, h1, h2, h3, h4⟩
theorem open_frame {H : Type} {enc : TypeId × Value → H} {w : World} {r : Reach} {b0 base : Nat} {held : Bool} {v : Value} {d : DataW H} {p : List MemPlace}
    (hv : Value.okWide Tryd.prog w r b0 40 v) (h : DataW.Trod enc Tryd.prog w base (fun _ => true) held 40 v d p) :
    ∃ (k s : Int) (a : Option Addr) (l c : Nat) (D : List Nat), v = .agg #[.int .i64 k, .int .i64 s, .slice a l c] ∧ IsData w a l c D := by
  obtain ⟨cs, rfl, hsz⟩ := okWide_struct Tryd.underlying40 hv
  obtain ⟨fuel, hf⟩ := h
  obtain ⟨k, s, a, l, c, D, e, hd⟩ := open_cells hf
  refine ⟨k, s, a, l, c, D, ?_, hd⟩
  have : cs.toList = [.int .i64 k, .int .i64 s, .slice a l c] := by simpa [Value.cells] using e
  congr 1
  apply Array.toList_inj.1
  exact this
end Go.Proofs.YtkinpbhbgeiflaaDoor.Fo
