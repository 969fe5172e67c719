/- LockPlays: what is asked and released on both sides. -/
import Derived.Test.YtlhjkacdhfchiaaDoorNf
import Derived.Test.YtlhjkacdhfchiaaDoorPk
import Derived.Test.YtlhjkacdhfchiaaDoorEu
import Derived.Test.YtlhjkacdhfchiaaDoorLv
namespace Go.Proofs.YtlhjkacdhfchiaaDoor.Ng
set_option linter.unusedVariables false
set_option linter.unusedSimpArgs false
set_option maxRecDepth 100000
open Go.ChangeShapes Go.WideShapes Go.ChangeAt Go.RowKit
open Go.Proofs.YtlhjkacdhfchiaaDoor.Wu Go.Proofs.YtlhjkacdhfchiaaDoor.Rk Go.Proofs.YtlhjkacdhfchiaaDoor.Pm Go.Proofs.YtlhjkacdhfchiaaDoor.Pd Go.Proofs.YtlhjkacdhfchiaaDoor.Ps Go.Proofs.YtlhjkacdhfchiaaDoor.Pu Go.Proofs.YtlhjkacdhfchiaaDoor.Pv Go.Proofs.YtlhjkacdhfchiaaDoor.Px Go.Proofs.YtlhjkacdhfchiaaDoor.Pk Go.Proofs.YtlhjkacdhfchiaaDoor.La Go.Proofs.YtlhjkacdhfchiaaDoor.Lb Go.Proofs.YtlhjkacdhfchiaaDoor.Lc Go.Proofs.YtlhjkacdhfchiaaDoor.Le Go.Proofs.YtlhjkacdhfchiaaDoor.Lg Go.Proofs.YtlhjkacdhfchiaaDoor.Lh Go.Proofs.YtlhjkacdhfchiaaDoor.Li Go.Proofs.YtlhjkacdhfchiaaDoor.Lk Go.Proofs.YtlhjkacdhfchiaaDoor.Lm Go.Proofs.YtlhjkacdhfchiaaDoor.Lo Go.Proofs.YtlhjkacdhfchiaaDoor.Lr Go.Proofs.YtlhjkacdhfchiaaDoor.Lu Go.Proofs.YtlhjkacdhfchiaaDoor.Lx Go.Proofs.YtlhjkacdhfchiaaDoor.Na Go.Proofs.YtlhjkacdhfchiaaDoor.Nb Go.Proofs.YtlhjkacdhfchiaaDoor.Nc Go.Proofs.YtlhjkacdhfchiaaDoor.Nd Go.Proofs.YtlhjkacdhfchiaaDoor.Nf
open Go.Proofs.YtlhjkacdhfchiaaDoor.Er (Et)
open Go.Proofs.YtlhjkacdhfchiaaDoor.Eu (IsErr number_c RetB)
theorem err_num {w : World} {v : Value} {c : Int} (h : ErrV w v c) (he : Et w) : Calls Tryd.prog 16 #[v] w (RetB w (.int .i64 c)) := by
  rcases h with rfl | ⟨i, h, rfl⟩ | ⟨i, b, rfl, hb⟩
  · exact number_c _ c (-1) w (.inr (.inl ⟨rfl, rfl⟩)) he
  · exact number_j v i w h he
  · exact number_c _ c i w (.inr (.inr ⟨b, _, _, rfl, hb⟩)) he
theorem nil_num {w : World} (he : Et w) : Calls Tryd.prog 16 #[.nilIface] w (RetB w (.int .i64 0)) := number_c _ 0 (-1) w (.inl ⟨rfl, rfl, rfl⟩) he
/-- Both sides, of the law's own. -/
structure PS (w0 : World) (N : Nat) (v : Value) (L : List Wh) (w : World) : Prop where
  lw : Lw w0 N N L w
  rk : RkW w N v L
  once : Once L
  few : L.length ≤ 64
theorem PS.up {w0 w w' : World} {N : Nat} {v : Value} {L : List Wh} (h : PS w0 N v L w) (hb : Below w.heap.size w w') : PS w0 N v L w' := ⟨h.lw.up hb, RkW.below h.rk hb, h.once, h.few⟩
theorem PS.bo {w0 w : World} {N : Nat} {v : Value} {L : List Wh} (h : PS w0 N v L w) : Bo w0 N N v L w := ⟨h.lw.lk, h.rk, h.lw.below⟩
theorem RkW.kp {w w' : World} {N : Nat} {v : Value} {L : List Wh} (h : RkW w N v L) (hk : Kp w w') : RkW w' N v L := by
  obtain ⟨us, h⟩ := h
  exact ⟨us, h.kp hk⟩
theorem once_put {L L' : List Wh} {who : Int} {l : List (List UInt8)} {b : Bool} (ho : Once L) (h : askF L who l = .inl (L', b)) : Once L' := by
  obtain ⟨hf, S, hS, rfl⟩ := askF_inl h
  rw [List.findIdx?_eq_none_iff] at hf
  unfold Once
  rw [List.pairwise_append]
  refine ⟨ho, List.pairwise_singleton _ _, fun x hx y hy e => ?_⟩
  rw [List.mem_singleton.1 hy] at e
  have := hf x hx
  simp [whoIs] at this
  exact this e
theorem put_free {L L' : List Wh} {who : Int} {l : List (List UInt8)} {b : Bool} (h : askF L who l = .inl (L', b)) : b = freeL L' L.length ∧ L'.length = L.length + 1 := by
  unfold askF at h
  split at h
  · cases h
  split at h
  · cases h
  split at h
  · cases h
  split at h
  · injection h with h
    injection h with h1 h2
    subst h1
    exact ⟨h2.symm, by simp⟩
  · cases h
  · cases h
/-- Release on the program's side, with all that it keeps. -/
theorem rel_k {w0 w : World} {N P : Nat} {L : List Wh} (h : Lw w0 N P L w) (who : Int) :
    Calls Tryd.prog 25 #[.pointer (some ⟨P, 0, none⟩), .int .i64 who] w fun e w' => match L.findIdx? (whoIs who) with
      | some i => ∃ v x, L[i]? = some x ∧ e = .returned (.tuple #[v, .int .i64 0]) ∧ OwnN w' w.heap.size v (nx (cut L i) x.2 i (L.length - 1 - i)) ∧ Lw w0 N P (cut L i) w' ∧ Kp w w' ∧ w.heap.size ≤ w'.heap.size
      | none => e = .returned (.tuple #[.slice none 0 0, .int .i64 4]) ∧ Below w.heap.size w w' := by
  refine (release_c h.lk who h.size).mono ?_
  intro e w' hr
  unfold RelR at hr
  cases hf : L.findIdx? (whoIs who) with
  | some i =>
    rw [hf] at hr
    obtain ⟨v, y, h1, h2, h3, h4, h5, h6⟩ := hr
    exact ⟨v, y, h1, h2, h3, h.next h4 h6, h5, h6.size⟩
  | none =>
    rw [hf] at hr
    exact hr
theorem once_cut {L : List Wh} (ho : Once L) (i : Nat) : Once (cut L i) := by
  refine ho.sublist ?_
  unfold cut
  conv => rhs; rw [← List.take_append_drop i L]
  exact List.Sublist.append (List.Sublist.refl _) (by rw [show L.drop (i + 1) = (L.drop i).drop 1 by rw [List.drop_drop]]; exact List.drop_sublist _ _)
end Go.Proofs.YtlhjkacdhfchiaaDoor.Ng
