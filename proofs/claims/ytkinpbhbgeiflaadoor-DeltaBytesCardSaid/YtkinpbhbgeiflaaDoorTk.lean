/- Opening an argument that is a slice of delta's tokens. -/
import Derived.Test.YtkinpbhbgeiflaaDoorFo
import Derived.Test.YtkinpbhbgeiflaaDoorQh
import Derived.Deep.Slices
namespace Go.Proofs.YtkinpbhbgeiflaaDoor.Tk
set_option linter.unusedVariables false
set_option linter.unusedSimpArgs false
set_option maxRecDepth 100000
open Go.RowKit Go.WideShapes Go.ChangeShapes Go.Deep
open Go.Proofs.YtkinpbhbgeiflaaDoor.Wu Go.Proofs.YtkinpbhbgeiflaaDoor.Sm Go.Proofs.YtkinpbhbgeiflaaDoor.Sh Go.Proofs.YtkinpbhbgeiflaaDoor.Ba Go.Proofs.YtkinpbhbgeiflaaDoor.Bo Go.Proofs.YtkinpbhbgeiflaaDoor.Da
/-- Data that came in. -/
def IsD (w : World) (a : Option Addr) (l c : Nat) (D : List Nat) : Prop := SrcB w a l D ∧ l ≤ c ∧ c ≤ 9223372036854775807 ∧ (a = none → c = 0)
theorem open_cells {H : Type} {enc : TypeId × Value → H} {w : World} {base fuel : Nat} {held : Bool} {cs : List Value} {x : DataW H × List MemPlace}
    (hf : DataW.trod enc Tryd.prog w base (fun _ => true) held fuel 68 cs = some x) :
    ∃ (k s : Int) (a : Option Addr) (l c : Nat) (D : List Nat), cs = [.int .i64 k, .int .i64 s, .slice a l c] ∧ IsD w a l c D := by
  obtain ⟨y0, y1, y2, n, _, hl, h0, h1, h2⟩ := trod_struct3 Tryd.underlying68 hf
  have e0 : Tryd.prog.cellsOf 3 = 1 := by kernel_rfl
  have e1 : Tryd.prog.cellsOf 22 = 1 := by kernel_rfl
  have e2 : Tryd.prog.cellsOf 68 = 3 := by kernel_rfl
  rw [e2] at hl
  simp only [e0, e1] at h0 h1 h2
  obtain ⟨k, hk, _, _⟩ := DataW.trod_int Tryd.underlying3 h0
  obtain ⟨s, hs, _, _⟩ := DataW.trod_int Tryd.underlying3 h1
  match cs, hl with
  | [c0, c1, c2], _ =>
    simp at hk hs h2
    subst hk hs
    rcases open_ints Tryd.underlying22 Tryd.underlying5 (by kernel_rfl) h2 with ⟨hcs, _⟩ | ⟨x, l, c, zs, hcs, _, hl, hm, hz, _, hcell, hwz⟩
    · simp at hcs
      subst hcs
      exact ⟨k, s, none, 0, 0, [], rfl, SrcB.nil w none, Nat.le_refl _, by omega, fun _ => rfl⟩
    · simp at hcs
      subst hcs
      obtain ⟨D, h1, h2, h3, h4⟩ := src_of_row (w := w) (a := some x) (len := l) (cap := c) (zs := zs) (.inr ⟨x, rfl, hl, hm, by simpa using hz, hcell, hwz⟩)
      exact ⟨k, s, some x, l, c, D, rfl, h1, h2, h3, fun e => by cases e⟩
theorem open_toks {H : Type} {enc : TypeId × Value → H} {w : World} {base : Nat} {held : Bool} {a : Option Addr} {len cap : Nat} {d : DataW H} {p : List MemPlace}
    (h : DataW.Trod enc Tryd.prog w base (fun _ => true) held 53 (.slice a len cap) d p) : ∃ T, IsT w a len cap T ∧ (len = 0 ∨ ∃ xs ys, d = .slice xs ys ∧ xs.length = len) := by
  obtain ⟨fuel, hf⟩ := h
  rcases open_slice Tryd.underlying53 hf with ⟨h0, _⟩ | ⟨⟨xb, xo, spot⟩, len', cap', m, n, D, Pl, h0, hb, hl, hm, hmm, hxd, hx⟩
  · simp [Value.cells] at h0
    obtain ⟨rfl, rfl, rfl⟩ := h0
    exact ⟨[], ⟨rfl, Nat.le_refl _, by omega, 0, 0, fun h => absurd h (by omega), fun i t ht => by simp at ht⟩, .inl rfl⟩
  · simp [Value.cells] at h0
    obtain ⟨rfl, rfl, rfl⟩ := h0
    simp at hmm
    subst hmm
    have e3 : Tryd.prog.cellsOf 68 = 3 := by kernel_rfl
    rw [e3] at hx
    unfold maxLen at hm
    have hd : d = .slice ((List.range len).map D) ((List.range (m - len)).map fun j => D (len + j)) := congrArg Prod.fst hxd
    have key : ∀ i, i < len → ∃ (t : Tok) (b : Option Addr) (l c : Nat), (∀ j, j < 3 → w.cell? ((Addr.mk xb xo spot).add (i * 3 + j)) = [Value.int .i64 t.f, .int .i64 t.c, .slice b l c][j]?) ∧ IsD w b l c t.d := by
      intro i hi
      obtain ⟨cs', h1, h2⟩ := hx i (by omega)
      obtain ⟨k, s, b, l, c, D, rfl, hd⟩ := open_cells h2
      refine ⟨⟨k, s, D⟩, b, l, c, fun j hj => ?_, hd⟩
      have := (World.cells?_some h1).2.2 j hj
      rw [Addr.add_add] at this
      exact this
    obtain ⟨f, hf'⟩ : ∃ f : Nat → Tok, ∀ i, i < len → ∃ (b : Option Addr) (l c : Nat), (∀ j, j < 3 → w.cell? ((Addr.mk xb xo spot).add (i * 3 + j)) = [Value.int .i64 (f i).f, .int .i64 (f i).c, .slice b l c][j]?) ∧ IsD w b l c (f i).d := by
      classical
      refine ⟨fun i => if h : i < len then (key i h).choose else ⟨0, 0, []⟩, fun i hi => ?_⟩
      simp only [hi, dif_pos]
      exact (key i hi).choose_spec
    refine ⟨(List.range len).map f, ⟨by simp, hl, by omega, xb, xo, fun h0 => ?_, fun i t ht => ?_⟩, .inr ⟨_, _, hd, by simp⟩⟩
    · obtain ⟨b, l, c, h1, _⟩ := hf' 0 h0
      have := h1 0 (by omega)
      have hspot : spot = none := by simpa [Addr.add] using World.cell?_spot this
      rw [hspot]
    · have hi : i < len := by
        have := (List.getElem?_eq_some_iff.1 ht).1
        simpa using this
      obtain rfl : f i = t := by simpa [hi] using ht
      obtain ⟨b, l, c, h1, hd1, hd2, hd3, hd4⟩ := hf' i hi
      have e0 := h1 0 (by omega)
      have e1 := h1 1 (by omega)
      have e2 := h1 2 (by omega)
      have hspot : spot = none := by
        obtain ⟨_, _, _, h0, _⟩ := hf' 0 (by omega)
        have := h0 0 (by omega)
        simpa [Addr.add] using World.cell?_spot this
      subst hspot
      rw [Addr.add_mid] at e0 e1 e2
      exact ⟨b, l, c, e0, e1, e2, hd1, hd2, hd3, hd4⟩
end Go.Proofs.YtkinpbhbgeiflaaDoor.Tk
