/- Cells of a block written in a row; an element of two cells cleared. For any program. -/
import Derived.Test.YtlhjkacdhfchiaaDoorWu
import Derived.Laws.IdiomCopy
import Derived.Lib.SliceRun
namespace Go.Proofs.YtlhjkacdhfchiaaDoor.Lf
set_option linter.unusedVariables false
set_option linter.unusedSimpArgs false
open Go.RowKit
open Go.Proofs.YtlhjkacdhfchiaaDoor.Wu
theorem blk_setCells {B : Nat} {T : TypeId} {f : Nat × Nat} : ∀ (vs : List Value) (o : Nat) (w : World) (c : Array Value), w.heap[B]? = some (.cells c T f) → o + vs.length ≤ c.size →
    ∃ c' : Array Value, (w.setCells B o vs).heap[B]? = some (.cells c' T f) ∧ c'.toList = c.toList.take o ++ vs ++ c.toList.drop (o + vs.length)
  | [], o, w, c, h, hs => ⟨c, h, by simp⟩
  | v :: r, o, w, c, h, hs => by
    simp only [List.length_cons] at hs
    obtain ⟨c', h1, h2⟩ := blk_setCells r (o + 1) (w.setCell ⟨B, o, none⟩ v) (c.setIfInBounds o v) (blk_set h v) (by simp; omega)
    refine ⟨c', h1, ?_⟩
    rw [h2]
    have hl : o < c.toList.length := by simp; omega
    rw [Array.toList_setIfInBounds, List.set_eq_take_append_cons_drop, if_pos hl]
    have h3 : (c.toList.take o).length = o := by rw [List.length_take]; omega
    have e1 : (c.toList.take o ++ v :: c.toList.drop (o + 1)).take (o + 1) = c.toList.take o ++ [v] := by
      rw [show c.toList.take o ++ v :: c.toList.drop (o + 1) = (c.toList.take o ++ [v]) ++ c.toList.drop (o + 1) from by simp]
      exact List.take_left' (by simp [h3])
    have e2 : (c.toList.take o ++ v :: c.toList.drop (o + 1)).drop (o + 1 + r.length) = c.toList.drop (o + (v :: r).length) := by
      rw [show c.toList.take o ++ v :: c.toList.drop (o + 1) = (c.toList.take o ++ [v]) ++ c.toList.drop (o + 1) from by simp, List.drop_append, List.drop_eq_nil_of_le (by simp [h3]), List.nil_append, List.drop_drop]
      congr 1
      simp [h3]
      omega
    rw [e1, e2]
    simp
theorem heap_setCells_ne (B : Nat) : ∀ (vs : List Value) (o : Nat) (w : World) (k : Nat), k ≠ B → (w.setCells B o vs).heap[k]? = w.heap[k]?
  | [], o, w, k, h => rfl
  | v :: r, o, w, k, h => by
    rw [World.setCells, heap_setCells_ne B r (o + 1) _ k h]
    exact RowKit.Below.heap_setCell w _ v k h
theorem grown_setCells (B : Nat) : ∀ (vs : List Value) (o : Nat) (w : World), w.grownBy (w.setCells B o vs) (some B)
  | [], o, w => ⟨rfl, rfl, rfl, Nat.le_refl _, fun _ _ _ => rfl⟩
  | v :: r, o, w => by
    have h := grown_setCells B r (o + 1) (w.setCell ⟨B, o, none⟩ v)
    have h0 : w.grownBy (w.setCell ⟨B, o, none⟩ v) (some B) := by
      have hb := (RowKit.Below.refl B w).setCell (p := ⟨B, o, none⟩) (Nat.le_refl _) v
      exact ⟨hb.os, hb.tape, hb.output, hb.size, fun k _ hk => RowKit.Below.heap_setCell w _ v k (fun e => hk (by rw [e]))⟩
    exact ⟨h.os.trans h0.os, h.tape.trans h0.tape, h.output.trans h0.output, Nat.le_trans h0.size h.size, fun k hk hne => (h.block k (Nat.lt_of_lt_of_le hk h0.size) hne).trans (h0.block k hk hne)⟩
/-- clear(s), s one element of two cells. -/
theorem run_clear_two {P : Program} (w : World) (t e ty : TypeId) (x y : Value) (ht : P.underlying t = some (.slice e)) (hv : ∀ w, (zeroValue e).run P w = .ok (.agg #[x, y]) w) (hx : x.oneCell' = true) (hy : y.oneCell' = true) (hcx : x.cells = #[x]) (hcy : y.cells = #[y]) (b o c : Nat)
    (hc : ∀ j, j < 2 → (w.cell? ⟨b, o + j, none⟩).isSome = true) (hf : ∀ j, j < 2 → w.frozen? ⟨b, o + j, none⟩ = false) :
    (Builtin.clear_ #[t] ty #[.slice (some ⟨b, o, none⟩) 1 c]).run P w = .ok (.tuple #[]) (w.setCells b o [x, y]) := by
  have hzc : (Builtin.zeroCells (Value.agg #[x, y]).cells 1).toList = [x, y] := by
    have : (Value.agg #[x, y]).cells = #[x, y] := by simp [Value.cells, hcx, hcy]
    rw [this]
    simp [Builtin.zeroCells]
    rfl
  have hst := run_storeCells_cells (P := P) b o [x, y] 0 w (by simpa using hc) (by simpa using hf) (by intro v hv'; simp at hv'; rcases hv' with rfl | rfl <;> assumption)
  simp only [Nat.add_zero] at hst
  simp [Builtin.clear_, run_underlying ht, hv, hzc, hst]
end Go.Proofs.YtlhjkacdhfchiaaDoor.Lf
