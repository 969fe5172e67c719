/- lock: asks in a row of the call's own; append. -/
import Derived.Test.YtlhjkacdhfchiaaDoorLa
import Derived.Test.YtlhjkacdhfchiaaDoorBa
import Derived.Maps.AppendAt
namespace Go.Proofs.YtlhjkacdhfchiaaDoor.Le
set_option linter.unusedVariables false
set_option linter.unusedSimpArgs false
set_option maxRecDepth 100000
open Go.ChangeShapes Go.WideShapes Go.ChangeAt Go.RowKit
open Go.Proofs.YtlhjkacdhfchiaaDoor.Wu Go.Proofs.YtlhjkacdhfchiaaDoor.La
theorem info_ask : (Tryd.prog.info? 111).map (fun i => (i.zero, i.size, i.bytes)) = some (some (.agg #[.int .i64 0, .slice none 0 0]), 2, 32) := by kernel_rfl
def askC (u : La.Ask) : List Value := [.int .i64 u.1, pv u]
def rowA (us : List La.Ask) : List Value := us.flatMap askC
theorem rowA_length (us : List La.Ask) : (rowA us).length = us.length * 2 := by
  unfold rowA
  induction us with
  | nil => rfl
  | cons u us ih => rw [List.flatMap_cons, List.length_append, ih, List.length_cons]; show 2 + _ = _; omega
theorem rowA_at : ∀ {us : List La.Ask} {i : Nat} {u : La.Ask}, us[i]? = some u → (rowA us)[i * 2]? = some (.int .i64 u.1) ∧ (rowA us)[i * 2 + 1]? = some (pv u)
  | [], i, u, h => by simp at h
  | x :: us, 0, u, h => by
    simp at h
    subst h
    exact ⟨rfl, rfl⟩
  | x :: us, i + 1, u, h => by
    have ih := rowA_at (us := us) (i := i) (u := u) (by simpa using h)
    have e : ∀ k, (rowA (x :: us))[k + 2]? = (rowA us)[k]? := fun k => rfl
    rw [show (i + 1) * 2 = i * 2 + 2 by omega, show i * 2 + 2 + 1 = (i * 2 + 1) + 2 by omega, e, e]
    exact ih
/-- A slice of asks of one's own. -/
def OwnA (w : World) (N : Nat) (v : Value) (us : List La.Ask) : Prop := w.ownsRow N 111 2 v us.length (rowA us)
theorem OwnA.nil (w : World) (N : Nat) : OwnA w N (.slice none 0 0) [] := World.ownsRow_nil _ _ _ _
theorem OwnA.is {w : World} {N : Nat} {v : Value} {us : List La.Ask} (h : OwnA w N v us) : ∃ a c, v = .slice a us.length c ∧ IsAs w a us.length c us := by
  obtain ⟨h1, h2⟩ := h
  rcases h2 with ⟨rfl, hn⟩ | ⟨g, cap, cur, rfl, hb, hg, hl, hm, hs, ht⟩
  · obtain rfl : us = [] := List.length_eq_zero_iff.1 hn
    exact ⟨none, 0, rfl, IsAs.nil w none 0 (by omega)⟩
  · unfold maxLen at hm
    have hat : ∀ k v, (rowA us)[k]? = some v → w.cell? ⟨g, 0 + k, none⟩ = some v := fun k v hv => by
      rw [Nat.zero_add]
      refine blk_cell hg ?_
      rw [← ht] at hv
      rw [List.getElem?_take] at hv
      split at hv
      · simpa using hv
      · cases hv
    exact ⟨some ⟨g, 0, none⟩, cap, rfl, rfl, hl, by omega, g, 0, fun _ => rfl, fun i u hi => ⟨hat _ _ (rowA_at hi).1, by rw [Nat.add_assoc]; exact hat _ _ (rowA_at hi).2⟩⟩
theorem OwnA.same {w w' : World} {N : Nat} {v : Value} {us : List La.Ask} (h : OwnA w N v us) (hk : ∀ g, v.ownBlock = some g → w'.heap[g]? = w.heap[g]?) : OwnA w' N v us := by
  obtain ⟨h1, h2⟩ := h
  refine ⟨h1, ?_⟩
  rcases h2 with h | ⟨g, cap, cur, rfl, hb, hg, r⟩
  · exact .inl h
  · exact .inr ⟨g, cap, cur, rfl, hb, (hk g rfl).trans hg, r⟩
theorem OwnA.below {w w' : World} {N : Nat} {v : Value} {us : List La.Ask} (h : OwnA w N v us) (hb : Below w.heap.size w w') : OwnA w' N v us := h.same fun g hg => hb.block g (World.ownsRow.lt h g hg).2
/-- append(asks, one) -/
theorem append_ask (w : World) (ty : TypeId) (v : Value) (N : Nat) (us : List La.Ask) (b : Nat) (x : La.Ask) (T : TypeId) (f : Nat × Nat) (c : Nat) (h : OwnA w N v us) (hN : N ≤ w.heap.size) (hb : w.heap[b]? = some (.cells #[.int .i64 x.1, pv x] T f)) (hbig : us.length ≤ 1000000) :
    ∃ v' w', (Builtin.append_ #[101, 101] ty #[v, .slice (some ⟨b, 0, none⟩) 1 c]).run Tryd.prog w = .ok v' w' ∧ OwnA w' N v' (us ++ [x]) ∧ w.grownBy w' v.ownBlock ∧ (v'.ownBlock = v.ownBlock ∨ v'.ownBlock = some w.heap.size) := by
  obtain ⟨i0, hi0, hz0, hz1, hz2⟩ := info_parts info_ask
  obtain ⟨v', w', hr, h1, h2, h3, h4⟩ := run_append_own_at (P := Tryd.prog) w N 101 ty 111 i0 _ 2 32 Tryd.underlying101 hi0 hz0 hz1 hz2 rfl (by omega) v us.length (rowA us) h ⟨b, 0, none⟩ 1 c (askC x) rfl (fun j u hu => by
      rw [Addr.add_mid, Nat.zero_add]
      exact blk_cell hb (by simpa [askC] using hu)) (fun u hu => by
      unfold askC at hu
      rcases List.mem_cons.1 hu with rfl | hu
      · rfl
      · rw [List.mem_singleton.1 hu]; rfl) (by unfold maxLen; omega) (by omega) hN
  refine ⟨v', w', hr, ?_, h2, h4⟩
  have e : rowA (us ++ [x]) = rowA us ++ askC x := by simp [rowA]
  unfold OwnA
  rw [e, List.length_append]
  exact h1
end Go.Proofs.YtlhjkacdhfchiaaDoor.Le
