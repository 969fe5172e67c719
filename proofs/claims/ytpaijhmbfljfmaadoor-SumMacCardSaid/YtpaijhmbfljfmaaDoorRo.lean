/- Opening an argument that is a slice of slices of bytes. -/
import Derived.Test.YtpaijhmbfljfmaaDoorBo
import Derived.Deep.Slices
namespace Go.Proofs.YtpaijhmbfljfmaaDoor.Ro
set_option linter.unusedVariables false
set_option linter.unusedSimpArgs false
set_option maxRecDepth 100000
open Go.RowKit Go.WideShapes Go.ChangeShapes Go.Deep
open Go.Proofs.YtpaijhmbfljfmaaDoor.Wu Go.Proofs.YtpaijhmbfljfmaaDoor.Sm Go.Proofs.YtpaijhmbfljfmaaDoor.Sh Go.Proofs.YtpaijhmbfljfmaaDoor.Ba Go.Proofs.YtpaijhmbfljfmaaDoor.Bo
/-- Rows of bytes that came in, by their cells. -/
def IsRows (w : World) (a : Option Addr) (len cap : Nat) : Prop :=
  len ≤ cap ∧ cap ≤ 9223372036854775807 ∧ (0 < len → ∃ xb xo, a = some ⟨xb, xo, none⟩ ∧ ∀ i, i < len → ∃ (b : Option Addr) (l c : Nat) (D : List Nat),
    w.cell? ⟨xb, xo + i, none⟩ = some (.slice b l c) ∧ SrcB w b l D ∧ l ≤ c ∧ c ≤ 9223372036854775807 ∧ (b = none → l = 0))
theorem open_rows {H : Type} {enc : TypeId × Value → H} {w : World} {base : Nat} {held : Bool} {a : Option Addr} {len cap : Nat} {d : DataW H} {p : List MemPlace} {t u e : TypeId} (ht : Tryd.prog.underlying t = some (.slice u)) (hu : Tryd.prog.underlying u = some (.slice e)) (he : Tryd.prog.underlying e = some (.int .u8)) (hcu : Tryd.prog.cellsOf u = 1) (hce : Tryd.prog.cellsOf e = 1)
    (h : DataW.Trod enc Tryd.prog w base (fun _ => true) held t (.slice a len cap) d p) : IsRows w a len cap := by
  obtain ⟨fuel, hf⟩ := h
  rcases open_slice1 ht hcu hf with ⟨h0, _⟩ | ⟨⟨xb, xo, spot⟩, len', cap', m, n, V, D, Pl, h0, hb, hl, hm, hmm, _, hx⟩
  · simp [Value.cells] at h0
    obtain ⟨rfl, rfl, rfl⟩ := h0
    exact ⟨Nat.le_refl _, by omega, fun h => absurd h (by omega)⟩
  · simp [Value.cells] at h0
    obtain ⟨rfl, rfl, rfl⟩ := h0
    simp at hmm
    subst hmm
    unfold maxLen at hm
    refine ⟨hl, by omega, fun h0 => ?_⟩
    have hspot : spot = none := by simpa [Addr.add] using World.cell?_spot (hx 0 (by omega)).1
    subst hspot
    refine ⟨xb, xo, rfl, fun i hi => ?_⟩
    obtain ⟨h1, h2⟩ := hx i (by omega)
    rw [Addr.add_mid] at h1
    rcases open_ints hu he hce h2 with ⟨hcs, _⟩ | ⟨x, l, c, zs, hcs, _, hl', hm', hz, _, hcell, hwz⟩
    · simp at hcs
      rw [hcs] at h1
      exact ⟨none, 0, 0, [], h1, SrcB.nil w none, Nat.le_refl _, by omega, fun _ => rfl⟩
    · simp at hcs
      rw [hcs] at h1
      obtain ⟨D, e1, e2, e3, e4⟩ := src_of_row (w := w) (a := some x) (len := l) (cap := c) (zs := zs) (.inr ⟨x, rfl, hl', hm', by simpa using hz, hcell, hwz⟩)
      exact ⟨some x, l, c, D, h1, e1, e2, e3, e4⟩
end Go.Proofs.YtpaijhmbfljfmaaDoor.Ro
