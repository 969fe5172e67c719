/- Opening a slice of texts. -/
import Derived.Test.YtlhjkacdhfchiaaDoorPs
import Derived.Deep.Slices
import Derived.Deep.Strs
import Derived.Deep.MidRow
namespace Go.Proofs.YtlhjkacdhfchiaaDoor.Pw
set_option linter.unusedVariables false
set_option linter.unusedSimpArgs false
set_option maxRecDepth 100000
open Go.RowKit Go.WideShapes Go.ChangeShapes Go.Deep
open Go.Proofs.YtlhjkacdhfchiaaDoor.Wu Go.Proofs.YtlhjkacdhfchiaaDoor.Pd Go.Proofs.YtlhjkacdhfchiaaDoor.Ps
theorem ex_list {α : Type} {n : Nat} {p : Nat → α → Prop} (h : ∀ i, i < n → ∃ x, p i x) : ∃ l : List α, l.length = n ∧ ∀ i (hi : i < l.length), p i l[i] := by
  induction n with
  | zero => exact ⟨[], rfl, fun i hi => absurd hi (by simp)⟩
  | succ n ih =>
    obtain ⟨l, hl, hp⟩ := ih (fun i hi => h i (by omega))
    obtain ⟨x, hx⟩ := h n (by omega)
    refine ⟨l ++ [x], by simp [hl], fun i hi => ?_⟩
    by_cases hin : i < l.length
    · rw [List.getElem_append_left hin]; exact hp i hin
    · have : i = l.length := by simp at hi; omega
      subst this
      rw [List.getElem_append_right (Nat.le_refl _)]
      simp only [Nat.sub_self, List.getElem_cons_zero]
      rw [hl]; exact hx
/-- Texts that came in, by their cells. -/
def IsStrs (w : World) (a : Option Addr) (len cap : Nat) : Prop := ∃ l : List (List UInt8), l.length = len ∧ SrcS w a l ∧ len ≤ cap ∧ cap ≤ 9223372036854775807 ∧ ∀ p ∈ l, p.length ≤ 9223372036854775807
theorem open_strs {H : Type} {enc : TypeId × Value → H} {w : World} {base : Nat} {held : Bool} {a : Option Addr} {len cap : Nat} {d : DataW H} {p : List MemPlace} {t e : TypeId} (ht : Tryd.prog.underlying t = some (.slice e)) (he : Tryd.prog.underlying e = some .string) (hce : Tryd.prog.cellsOf e = 1)
    (h : DataW.Trod enc Tryd.prog w base (fun _ => true) held t (.slice a len cap) d p) : IsStrs w a len cap := by
  obtain ⟨fuel, hf⟩ := h
  rcases open_slice1 ht hce hf with ⟨h0, _⟩ | ⟨⟨xb, xo, spot⟩, len', cap', m, n, V, D, Pl, h0, hb, hl, hm, hmm, _, hx⟩
  · simp [Value.cells] at h0
    obtain ⟨rfl, rfl, rfl⟩ := h0
    exact ⟨[], rfl, ⟨0, 0, fun h => absurd h (by simp), fun i p h => by simp at h⟩, Nat.le_refl _, by omega, by simp⟩
  · simp [Value.cells] at h0
    obtain ⟨rfl, rfl, rfl⟩ := h0
    simp at hmm
    subst hmm
    unfold maxLen at hm
    have key : ∀ i, i < len → ∃ q : List UInt8, q.length ≤ 9223372036854775807 ∧ w.cell? ((Addr.mk xb xo spot).add i) = some (.string (bs q)) := by
      intro i hi
      obtain ⟨h1, h2⟩ := hx i (by omega)
      obtain ⟨s, hs, _, hsz⟩ := DataW.trod_string he h2
      simp at hs
      refine ⟨s.data.toList, ?_, by rw [h1, hs, bs_of]⟩
      rw [← Lib.size_eq]
      unfold maxLen at hsz
      exact hsz
    obtain ⟨l, hll, hp⟩ := ex_list key
    refine ⟨l, hll, ⟨xb, xo, fun h0 => ?_, fun i p hi => ?_⟩, hl, by omega, fun p hpm => ?_⟩
    · have hspot : spot = none := by simpa [Addr.add] using World.cell?_spot (hp 0 h0).2
      rw [hspot]
    · obtain ⟨hil, e⟩ := List.getElem?_eq_some_iff.1 hi
      have hspot : spot = none := by simpa [Addr.add] using World.cell?_spot (hp 0 (by omega)).2
      subst hspot
      have := (hp i hil).2
      rw [Addr.add_mid, e] at this
      exact this
    · obtain ⟨i, hi, rfl⟩ := List.mem_iff_getElem.1 hpm
      exact (hp i hi).1
end Go.Proofs.YtlhjkacdhfchiaaDoor.Pw
