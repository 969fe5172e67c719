/- Opening SlotPlays' arguments: what is done, one and a slice of them. -/
import Derived.Test.YtlhjkacdhfchiaaXb
import Derived.Test.YtlhjkacdhfchiaaBo
import Derived.Deep.Slices
import Derived.Deep.Strs
import Derived.Deep.MidRow
namespace Go.Proofs.Ytlhjkacdhfchiaa.Xo
set_option linter.unusedVariables false
set_option linter.unusedSimpArgs false
set_option maxRecDepth 100000
open Go.RowKit Go.WideShapes Go.ChangeShapes Go.Deep
open Go.Proofs.Ytlhjkacdhfchiaa.Wu
theorem ex_list {α : Type} {n : Nat} {p : Nat → α → Prop} (h : ∀ i, i < n → ∃ x, p i x) : ∃ l : List α, l.length = n ∧ ∀ i (hi : i < l.length), p i l[i] := by
  induction n with
  | zero => exact ⟨[], rfl, fun i hi => absurd hi (by simp)⟩
  | succ n ih =>
    obtain ⟨l, hl, hp⟩ := ih (fun i hi => h i (by omega))
    obtain ⟨x, hx⟩ := h n (by omega)
    refine ⟨l ++ [x], by simp [hl], fun i hi => ?_⟩
    by_cases hin : i < l.length
    · rw [List.getElem_append_left hin]; exact hp i hin
    · have : i = l.length := by simp at hi; omega
      subst this
      rw [List.getElem_append_right (Nat.le_refl _)]
      simp only [Nat.sub_self, List.getElem_cons_zero]
      rw [hl]; exact hx
theorem trod_struct4 {H : Type} {enc : TypeId × Value → H} {P : Program} {w : World} {base : Nat} {spare : Nat → Bool} {held : Bool} {t : TypeId} {f0 f1 f2 f3 : Field} {fuel : Nat} {cs : List Value} {x : DataW H × List MemPlace} (ht : P.underlying t = some (.struct #[f0, f1, f2, f3])) (h : DataW.trod enc P w base spare held fuel t cs = some x) :
    ∃ y0 y1 y2 y3 n, cs.length = P.cellsOf t ∧ DataW.trod enc P w base spare held n f0.type ((cs.drop f0.offset).take (P.cellsOf f0.type)) = some y0 ∧
      DataW.trod enc P w base spare held n f1.type ((cs.drop f1.offset).take (P.cellsOf f1.type)) = some y1 ∧ DataW.trod enc P w base spare held n f2.type ((cs.drop f2.offset).take (P.cellsOf f2.type)) = some y2 ∧
      DataW.trod enc P w base spare held n f3.type ((cs.drop f3.offset).take (P.cellsOf f3.type)) = some y3 := by
  obtain ⟨xs, n, _, rfl, hl, hlen, hf⟩ := DataW.trod_struct ht h
  match xs, hlen with
  | [y0, y1, y2, y3], _ => exact ⟨y0, y1, y2, y3, n, hl, by simpa using hf 0 f0 rfl, by simpa using hf 1 f1 rfl, by simpa using hf 2 f2 rfl, by simpa using hf 3 f3 rfl⟩
/-- What is done: its kind, who, how many slots, the module. -/
structure OpT where
  k : Int
  who : Int
  sl : Int
  nm : ByteArray
def opC (o : OpT) : List Value := [.int .i64 o.k, .int .i64 o.who, .int .i64 o.sl, .string o.nm]
theorem op_cells {H : Type} {enc : TypeId × Value → H} {w : World} {base fuel : Nat} {spare : Nat → Bool} {held : Bool} {cs : List Value} {x : DataW H × List MemPlace}
    (hf : DataW.trod enc Try.prog w base spare held fuel 24 cs = some x) : ∃ o : OpT, cs = opC o ∧ (Lit.int .i64 o.who).wf = true := by
  obtain ⟨y0, y1, y2, y3, k, hl, h0, h1, h2, h3⟩ := trod_struct4 Try.underlying24 hf
  have c9 : Try.prog.cellsOf 9 = 1 := by kernel_rfl
  have c3 : Try.prog.cellsOf 3 = 1 := by kernel_rfl
  have cO : Try.prog.cellsOf 24 = 4 := by kernel_rfl
  rw [cO] at hl
  simp only [c9, c3] at h0 h1 h2 h3
  obtain ⟨a0, e0, _, _⟩ := DataW.trod_int Try.underlying3 h0
  obtain ⟨a1, e1, _, w1⟩ := DataW.trod_int Try.underlying3 h1
  obtain ⟨a2, e2, _, _⟩ := DataW.trod_int Try.underlying3 h2
  obtain ⟨a3, e3, _, _⟩ := DataW.trod_string Try.underlying9 h3
  refine ⟨⟨a0, a1, a2, a3⟩, ?_, w1⟩
  match cs, hl, e0, e1, e2, e3 with
  | [x0, x1, x2, x3], _, e0, e1, e2, e3 =>
    simp at e0 e1 e2 e3
    subst e0 e1 e2 e3
    rfl
theorem open_op {H : Type} {enc : TypeId × Value → H} {w : World} {r : Reach} {b0 base : Nat} {spare : Nat → Bool} {held : Bool} {v : Value} {d : DataW H} {p : List MemPlace}
    (hv : Value.okWide Try.prog w r b0 24 v) (h : DataW.Trod enc Try.prog w base spare held 24 v d p) :
    ∃ o : OpT, v = .agg #[.int .i64 o.k, .int .i64 o.who, .int .i64 o.sl, .string o.nm] ∧ (Lit.int .i64 o.who).wf = true := by
  obtain ⟨cs, rfl, hsz⟩ := okWide_struct Try.underlying24 hv
  obtain ⟨fuel, hf⟩ := h
  obtain ⟨o, e, hw⟩ := op_cells hf
  refine ⟨o, ?_, hw⟩
  congr 1
  apply Array.toList_inj.1
  simpa [Value.cells, opC] using e
/-- Such that came in, by their cells. -/
def IsOps (w : World) (a : Option Addr) (len cap : Nat) : Prop := ∃ l : List OpT, l.length = len ∧ len ≤ cap ∧ cap ≤ 9223372036854775807 ∧ ∃ g off, (0 < len → a = some ⟨g, off, none⟩) ∧
  ∀ i o, l[i]? = some o → (∀ j u, (opC o)[j]? = some u → w.cell? ⟨g, off + i * 4 + j, none⟩ = some u) ∧ (Lit.int .i64 o.who).wf = true
theorem open_ops {H : Type} {enc : TypeId × Value → H} {w : World} {base : Nat} {held : Bool} {a : Option Addr} {len cap : Nat} {d : DataW H} {p : List MemPlace}
    (h : DataW.Trod enc Try.prog w base (fun _ => true) held 22 (.slice a len cap) d p) : IsOps w a len cap := by
  obtain ⟨fuel, hf⟩ := h
  rcases open_slice Try.underlying22 hf with ⟨h0, _⟩ | ⟨⟨xb, xo, spot⟩, len', cap', q, n', D, Pl, h0, hb, hlc, hm, hmm, _, hx⟩
  · simp [Value.cells] at h0
    obtain ⟨rfl, rfl, rfl⟩ := h0
    exact ⟨[], rfl, Nat.le_refl _, by omega, 0, 0, fun h => absurd h (by omega), fun i o h => by simp at h⟩
  · simp [Value.cells] at h0
    obtain ⟨rfl, rfl, rfl⟩ := h0
    simp at hmm
    subst hmm
    have e2' : Try.prog.cellsOf 24 = 4 := by kernel_rfl
    rw [e2'] at hx
    unfold maxLen at hm
    have key : ∀ i, i < len → ∃ o : OpT, (Lit.int .i64 o.who).wf = true ∧ ∀ j, j < 4 → w.cell? ((Addr.mk xb xo spot).add (i * 4 + j)) = (opC o)[j]? := by
      intro i hi
      obtain ⟨cs', g1, g2⟩ := hx i (by omega)
      obtain ⟨o, rfl, hw⟩ := op_cells g2
      refine ⟨o, hw, fun j hj => ?_⟩
      have := (World.cells?_some g1).2.2 j hj
      rw [Addr.add_add] at this
      exact this
    obtain ⟨l, hll, hp⟩ := ex_list key
    have hs : 0 < len → spot = none := fun h0 => by
      have := (hp 0 (by omega)).2 0 (by omega)
      simpa [Addr.add] using World.cell?_spot this
    refine ⟨l, hll, hlc, by omega, xb, xo, fun h0 => by rw [hs h0], fun i o hi => ?_⟩
    obtain ⟨hil, he⟩ := List.getElem?_eq_some_iff.1 hi
    have hsp := hs (by omega)
    subst hsp
    obtain ⟨hw, hc⟩ := hp i hil
    rw [he] at hw hc
    refine ⟨fun j u hu => ?_, hw⟩
    have hj : j < 4 := (List.getElem?_eq_some_iff.1 hu).1
    have := hc j hj
    rw [Addr.add_mid, hu, ← Nat.add_assoc] at this
    exact this
end Go.Proofs.Ytlhjkacdhfchiaa.Xo
