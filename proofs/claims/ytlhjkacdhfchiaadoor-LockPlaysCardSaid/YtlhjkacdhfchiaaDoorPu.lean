/- path.Set's insert: a text among those in their order. -/
import Derived.Test.YtlhjkacdhfchiaaDoorPt
import Derived.Test.YtlhjkacdhfchiaaDoorRg
import Derived.Deep.MidRow
namespace Go.Proofs.YtlhjkacdhfchiaaDoor.Pu
set_option linter.unusedVariables false
set_option linter.unusedSimpArgs false
set_option maxRecDepth 100000
open Go.ChangeShapes Go.WideShapes Go.RowKit
open Go.Proofs.YtlhjkacdhfchiaaDoor.Wu Go.Proofs.YtlhjkacdhfchiaaDoor.Pm Go.Proofs.YtlhjkacdhfchiaaDoor.Pd Go.Proofs.YtlhjkacdhfchiaaDoor.Pg Go.Proofs.YtlhjkacdhfchiaaDoor.Ps Go.Proofs.YtlhjkacdhfchiaaDoor.Pt Go.Proofs.YtlhjkacdhfchiaaDoor.Rg
attribute [local go_sem] Rk.kUpon_value Rk.kUpon_skip Rk.kUpon_enter
def tv (p : List UInt8) : Value := .string (bs p)
/-- Texts in a slice of the call's own. -/
def OwnS (w : World) (N : Nat) (v : Value) (S : List (List UInt8)) : Prop := w.ownsRow N 9 1 v S.length (S.map tv)
theorem OwnS.nil (w : World) (N : Nat) : OwnS w N (.slice none 0 0) [] := World.ownsRow_nil _ _ _ _
theorem OwnS.form {w : World} {N : Nat} {v : Value} {S : List (List UInt8)} (h : OwnS w N v S) : ∃ a cap, v = .slice a S.length cap ∧ S.length ≤ cap ∧ cap ≤ maxLen ∧ (a = none → S = [] ∧ cap = 0) ∧ ∀ ad, a = some ad → ∃ g, ad = ⟨g, 0, none⟩ ∧ N ≤ g ∧ g < w.heap.size := by
  obtain ⟨h1, h2⟩ := h
  rcases h2 with ⟨rfl, hn⟩ | ⟨g, cap, cur, rfl, hb, hg, hl, hm, _⟩
  · refine ⟨none, 0, by rw [hn], by omega, Nat.zero_le _, fun _ => ⟨List.length_eq_zero_iff.1 hn, rfl⟩, (fun ad e => by cases e)⟩
  · exact ⟨_, cap, rfl, hl, hm, (fun e => by cases e), fun ad e => by injection e with e; exact ⟨g, e.symm, hb, heap_lt hg⟩⟩
theorem OwnS.src {w : World} {N : Nat} {S : List (List UInt8)} {a : Option Addr} {n cap : Nat} (h : OwnS w N (.slice a n cap) S) : SrcS w a S := by
  obtain ⟨h1, h2⟩ := h
  rcases h2 with ⟨e, hn⟩ | ⟨g, c, cur, e, hb, hg, hl, hm, hs, ht⟩
  · obtain rfl : S = [] := List.length_eq_zero_iff.1 hn
    exact ⟨0, 0, fun h => absurd h (by simp), fun i p hp => by simp at hp⟩
  · injection e with e1 e2 e3
    refine ⟨g, 0, fun _ => e1, fun i p hp => ?_⟩
    have hlt : i < S.length := (List.getElem?_eq_some_iff.1 hp).1
    have h3 : cur.toList[i]? = some (tv p) := by
      have : (cur.toList.take (S.length * 1))[i]? = some (tv p) := by rw [ht]; simp [hp]
      rw [List.getElem?_take_of_lt (by omega)] at this
      exact this
    rw [Nat.zero_add]
    exact blk_cell hg (x := .string (bs p)) (by simpa [tv] using h3)
theorem OwnS.same {w w' : World} {N : Nat} {v : Value} {S : List (List UInt8)} (h : OwnS w N v S) (hk : ∀ g, v.ownBlock = some g → w'.heap[g]? = w.heap[g]?) : OwnS w' N v S := by
  obtain ⟨h1, h2⟩ := h
  refine ⟨h1, ?_⟩
  rcases h2 with h | ⟨g, cap, cur, e, hb, hg, r⟩
  · exact .inl h
  · exact .inr ⟨g, cap, cur, e, hb, (hk g (by rw [e]; rfl)).trans hg, r⟩
/-- append of texts to a row of the call's own. -/
theorem append_texts (w : World) (ty : TypeId) (v : Value) (N : Nat) (S R : List (List UInt8)) (a : Option Addr) (c : Nat) (h : OwnS w N v S) (hs : SrcS w a R) (hN : N ≤ w.heap.size) (hbig : S.length + R.length ≤ 1000000) (hR : 0 < R.length) :
    ∃ v' w', (Builtin.append_ #[52, 52] ty #[v, .slice a R.length c]).run Tryd.prog w = .ok v' w' ∧ OwnS w' N v' (S ++ R) ∧ w.grownBy w' v.ownBlock ∧ (v'.ownBlock = v.ownBlock ∨ v'.ownBlock = some w.heap.size) := by
  obtain ⟨i0, hi0, hz0, hz1, hz2⟩ := info_parts hi9
  obtain ⟨b, off, ha, hcell⟩ := hs
  have e := ha hR
  subst e
  obtain ⟨v', w', hrun, h1, h2, h3, h4⟩ := run_append_own_at (P := Tryd.prog) w N 52 ty 9 i0 _ 1 16 Tryd.underlying52 hi0 hz0 hz1 hz2 rfl (by omega) v S.length _ h ⟨b, off, none⟩ R.length c (R.map tv) (by simp) (fun j u hu => by
      rw [Addr.add_mid]
      obtain ⟨p, hp, rfl⟩ : ∃ p, R[j]? = some p ∧ tv p = u := by simpa using hu
      exact hcell j p hp) (by intro u hu; obtain ⟨p, _, rfl⟩ := List.mem_map.1 hu; rfl) (by unfold maxLen; omega) (by omega) hN
  refine ⟨v', w', hrun, ?_, h2, h4⟩
  unfold OwnS
  rw [List.length_append, List.map_append]
  exact h1
/-- append of a text to texts without room behind them. -/
theorem append_front (w : World) (ty : TypeId) (ad : Addr) (S : List (List UInt8)) (p : List UInt8) (b c : Nat) (T : TypeId) (f : Nat × Nat) (hs : ∀ j q, S[j]? = some q → w.cell? (ad.add j) = some (tv q)) (hb : w.heap[b]? = some (.cells #[tv p] T f)) (hbig : S.length ≤ 1000000) :
    ∃ cap' w', (Builtin.append_ #[52, 52] ty #[.slice (some ad) S.length S.length, .slice (some ⟨b, 0, none⟩) 1 c]).run Tryd.prog w = .ok (.slice (some ⟨w.heap.size, 0, none⟩) (S.length + 1) cap') w' ∧ OwnS w' w.heap.size (.slice (some ⟨w.heap.size, 0, none⟩) (S.length + 1) cap') (S ++ [p]) ∧ Below w.heap.size w w' := by
  obtain ⟨i0, hi0, hz0, hz1, hz2⟩ := info_parts hi9
  have hr := run_append_grow (P := Tryd.prog) w 52 ty 9 i0 (.string ByteArray.empty) Tryd.underlying52 hi0 hz0 ad S.length S.length (S.map tv) (by rw [hz1]; simp) (fun j v hv => by
      obtain ⟨q, hq, rfl⟩ : ∃ q, S[j]? = some q ∧ tv q = v := by simpa using hv
      exact hs j q hq) ⟨b, 0, none⟩ 1 c [tv p] (by rw [hz1]; rfl) (fun j v hv => by
      rw [Addr.add_mid, Nat.zero_add]
      exact blk_cell hb (by simpa using hv)) (by omega) (by omega) (growslice_fits (by omega) (by rw [hz2]; omega))
  have hge := grownCap_ge w (S.length + 1) S.length 9
  have hle := grownCap_le_maxLen w (S.length + 1) S.length 9 (by unfold maxLen; omega)
  generalize grownCap w (S.length + 1) S.length 9 = q at hr hge hle
  have hzs : (Builtin.zeroCells (Value.string ByteArray.empty).cells (q - (S.length + 1))).size = q - (S.length + 1) := by rw [size_zeroCells]; simp [Value.cells]
  generalize Builtin.zeroCells (Value.string ByteArray.empty).cells (q - (S.length + 1)) = Z at hr hzs
  refine ⟨q, _, hr, ⟨by simp, .inr ⟨w.heap.size, q, _, ?_, Nat.le_refl _, heap_alloc_new w.drew _, ?_, hle, ?_, ?_⟩⟩, ⟨rfl, rfl, rfl, by simp, fun k hk => Below.heap_alloc w.drew _ k hk⟩⟩
  · simp
  · simpa using hge
  · simp [hzs]; omega
  · rw [show ((S.map tv).toArray ++ #[tv p] ++ Z).toList = (S ++ [p]).map tv ++ Z.toList from by simp]
    exact List.take_left' (by simp)
end Go.Proofs.YtlhjkacdhfchiaaDoor.Pu
