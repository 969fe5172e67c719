/- Opening an argument that is a slice of frames. -/
import Derived.Test.YtofflmhfffphdaaFo
import Derived.Deep.Slices
namespace Go.Proofs.Ytofflmhfffphdaa.Fq
set_option linter.unusedVariables false
set_option linter.unusedSimpArgs false
set_option maxRecDepth 100000
open Go.RowKit Go.WideShapes Go.ChangeShapes Go.Deep
open Go.Proofs.Ytofflmhfffphdaa.Wu Go.Proofs.Ytofflmhfffphdaa.Sm Go.Proofs.Ytofflmhfffphdaa.Sh Go.Proofs.Ytofflmhfffphdaa.Ba Go.Proofs.Ytofflmhfffphdaa.Bo Go.Proofs.Ytofflmhfffphdaa.Fo
/-- Frames that came in, by their cells. -/
def IsFrames (w : World) (a : Option Addr) (len cap : Nat) : Prop :=
  len ≤ cap ∧ cap ≤ 9223372036854775807 ∧ (0 < len → ∃ xb xo, a = some ⟨xb, xo, none⟩ ∧ ∀ i, i < len → ∃ (k s : Int) (b : Option Addr) (l c : Nat) (D : List Nat),
    w.cell? ⟨xb, xo + i * 3 + 0, none⟩ = some (.int .i64 k) ∧ w.cell? ⟨xb, xo + i * 3 + 1, none⟩ = some (.int .i64 s) ∧ w.cell? ⟨xb, xo + i * 3 + 2, none⟩ = some (.slice b l c) ∧ IsData w b l c D)
theorem open_frames {H : Type} {enc : TypeId × Value → H} {w : World} {base : Nat} {held : Bool} {a : Option Addr} {len cap : Nat} {d : DataW H} {p : List MemPlace}
    (h : DataW.Trod enc Try.prog w base (fun _ => true) held 22 (.slice a len cap) d p) : IsFrames w a len cap := by
  obtain ⟨fuel, hf⟩ := h
  rcases open_slice Try.underlying22 hf with ⟨h0, _⟩ | ⟨⟨xb, xo, spot⟩, len', cap', m, n, D, Pl, h0, hb, hl, hm, hmm, _, hx⟩
  · simp [Value.cells] at h0
    obtain ⟨rfl, rfl, rfl⟩ := h0
    exact ⟨Nat.le_refl _, by omega, fun h => absurd h (by omega)⟩
  · simp [Value.cells] at h0
    obtain ⟨rfl, rfl, rfl⟩ := h0
    simp at hmm
    subst hmm
    have e3 : Try.prog.cellsOf 26 = 3 := by kernel_rfl
    rw [e3] at hx
    unfold maxLen at hm
    refine ⟨hl, by omega, fun h0 => ?_⟩
    have key : ∀ i, i < len → ∃ (k s : Int) (b : Option Addr) (l c : Nat) (D : List Nat), (∀ j, j < 3 → w.cell? ((Addr.mk xb xo spot).add (i * 3 + j)) = [Value.int .i64 k, .int .i64 s, .slice b l c][j]?) ∧ IsData w b l c D := by
      intro i hi
      obtain ⟨cs', h1, h2⟩ := hx i (by omega)
      obtain ⟨k, s, b, l, c, D, rfl, hd⟩ := open_cells h2
      refine ⟨k, s, b, l, c, D, fun j hj => ?_, hd⟩
      have := (World.cells?_some h1).2.2 j hj
      rw [Addr.add_add] at this
      exact this
    have hspot : spot = none := by
      obtain ⟨k, s, b, l, c, D, h1, _⟩ := key 0 h0
      have := h1 0 (by omega)
      simpa [Addr.add] using World.cell?_spot this
    subst hspot
    refine ⟨xb, xo, rfl, fun i hi => ?_⟩
    obtain ⟨k, s, b, l, c, D, h1, hd⟩ := key i hi
    have e0 := h1 0 (by omega)
    have e1 := h1 1 (by omega)
    have e2 := h1 2 (by omega)
    rw [Addr.add_mid] at e0 e1 e2
    refine ⟨k, s, b, l, c, D, ?_, ?_, ?_, hd⟩
    · rw [Nat.add_assoc]; exact e0
    · rw [Nat.add_assoc]; exact e1
    · rw [Nat.add_assoc]; exact e2
end Go.Proofs.Ytofflmhfffphdaa.Fq
