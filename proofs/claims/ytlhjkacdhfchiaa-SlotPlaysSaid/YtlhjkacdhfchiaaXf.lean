/- SlotPlays: the law's own list of who is where: a row of one's own; appends. -/
import Derived.Test.YtlhjkacdhfchiaaXe
import Derived.Test.YtlhjkacdhfchiaaRg
import Derived.Maps.AppendAt
namespace Go.Proofs.Ytlhjkacdhfchiaa.Xf
set_option linter.unusedVariables false
set_option linter.unusedSimpArgs false
set_option maxRecDepth 100000
open Go.ChangeShapes Go.WideShapes Go.ChangeAt Go.RowKit
open Go.Proofs.Ytlhjkacdhfchiaa.Wu Go.Proofs.Ytlhjkacdhfchiaa.Rk Go.Proofs.Ytlhjkacdhfchiaa.Km Go.Proofs.Ytlhjkacdhfchiaa.Xa Go.Proofs.Ytlhjkacdhfchiaa.Xb Go.Proofs.Ytlhjkacdhfchiaa.Xc Go.Proofs.Ytlhjkacdhfchiaa.Xd Go.Proofs.Ytlhjkacdhfchiaa.Xm Go.Proofs.Ytlhjkacdhfchiaa.Xe
theorem info_in : (Try.prog.info? 30).map (fun i => (i.zero, i.size, i.bytes)) = some (some (.agg #[.int .i64 0, .string ⟨#[]⟩]), 2, 24) := by kernel_rfl
def inC (u : Sl) : List Value := [.int .i64 u.1, .string u.2]
def rowI (L : List Sl) : List Value := L.flatMap inC
theorem rowI_length (L : List Sl) : (rowI L).length = L.length * 2 := by
  unfold rowI
  induction L with
  | nil => rfl
  | cons u L ih => rw [List.flatMap_cons, List.length_append, ih, List.length_cons]; show 2 + _ = _; omega
theorem rowI_append (A B : List Sl) : rowI (A ++ B) = rowI A ++ rowI B := by simp [rowI]
theorem rowI_one (L : List Sl) : ∀ u ∈ rowI L, u.oneCell' = true := by
  intro u hu
  obtain ⟨x, _, hx⟩ := List.mem_flatMap.1 hu
  unfold inC at hx
  rcases List.mem_cons.1 hx with rfl | hx
  · rfl
  · rw [List.mem_singleton.1 hx]; rfl
theorem rowI_at : ∀ {L : List Sl} {i : Nat} {u : Sl}, L[i]? = some u → (rowI L)[i * 2]? = some (.int .i64 u.1) ∧ (rowI L)[i * 2 + 1]? = some (.string u.2)
  | [], i, u, h => by simp at h
  | x :: L, 0, u, h => by
    simp at h
    subst h
    exact ⟨rfl, rfl⟩
  | x :: L, i + 1, u, h => by
    have ih := rowI_at (L := L) (i := i) (u := u) (by simpa using h)
    have e : ∀ k, (rowI (x :: L))[k + 2]? = (rowI L)[k]? := fun k => rfl
    rw [show (i + 1) * 2 = i * 2 + 2 by omega, show i * 2 + 2 + 1 = (i * 2 + 1) + 2 by omega, e, e]
    exact ih
theorem rowI_drop (L : List Sl) (k : Nat) (hk : k ≤ L.length) : (rowI L).drop (k * 2) = rowI (L.drop k) := by
  have e : rowI L = rowI (L.take k) ++ rowI (L.drop k) := by rw [← rowI_append, List.take_append_drop]
  rw [e]
  exact List.drop_left' (by rw [rowI_length, List.length_take]; omega)
/-- A slice of these of one's own. -/
def OwnI (w : World) (N : Nat) (v : Value) (L : List Sl) : Prop := w.ownsRow N 30 2 v L.length (rowI L)
theorem OwnI.nil (w : World) (N : Nat) : OwnI w N (.slice none 0 0) [] := World.ownsRow_nil _ _ _ _
theorem OwnI.form {w : World} {N : Nat} {v : Value} {L : List Sl} (h : OwnI w N v L) : ∃ a c g, v = .slice a L.length c ∧ L.length ≤ c ∧ c ≤ 9223372036854775807 ∧ (0 < L.length → a = some ⟨g, 0, none⟩) ∧ (∀ j u, (rowI L)[j]? = some u → w.cell? ⟨g, j, none⟩ = some u) ∧ ∀ i u, L[i]? = some u → w.cell? ⟨g, i * 2, none⟩ = some (.int .i64 u.1) ∧ w.cell? ⟨g, i * 2 + 1, none⟩ = some (.string u.2) := by
  obtain ⟨h1, h2⟩ := h
  rcases h2 with ⟨rfl, hn⟩ | ⟨g, cap, cur, rfl, hb, hg, hl, hm, hs, ht⟩
  · obtain rfl : L = [] := List.length_eq_zero_iff.1 hn
    exact ⟨none, 0, 0, rfl, Nat.le_refl _, by omega, fun h => absurd h (by simp), fun j u h => by simp [rowI] at h, fun i u h => by simp at h⟩
  · unfold maxLen at hm
    have hat : ∀ k v, (rowI L)[k]? = some v → w.cell? ⟨g, k, none⟩ = some v := fun k v hv => by
      refine blk_cell hg ?_
      rw [← ht] at hv
      rw [List.getElem?_take] at hv
      split at hv
      · simpa using hv
      · cases hv
    exact ⟨some ⟨g, 0, none⟩, cap, g, rfl, hl, by omega, fun _ => rfl, hat, fun i u hi => ⟨hat _ _ (rowI_at hi).1, hat _ _ (rowI_at hi).2⟩⟩
theorem OwnI.same {w w' : World} {N : Nat} {v : Value} {L : List Sl} (h : OwnI w N v L) (hk : ∀ g, v.ownBlock = some g → w'.heap[g]? = w.heap[g]?) : OwnI w' N v L := by
  obtain ⟨h1, h2⟩ := h
  refine ⟨h1, ?_⟩
  rcases h2 with h | ⟨g, cap, cur, rfl, hb, hg, r⟩
  · exact .inl h
  · exact .inr ⟨g, cap, cur, rfl, hb, (hk g rfl).trans hg, r⟩
theorem OwnI.below {w w' : World} {N : Nat} {v : Value} {L : List Sl} (h : OwnI w N v L) (hb : Below w.heap.size w w') : OwnI w' N v L := h.same fun g hg => hb.block g (World.ownsRow.lt h g hg).2
theorem OwnI.cells {w : World} {N g : Nat} {v : Value} {L : List Sl} (h : OwnI w N v L) (hg : v.ownBlock = some g) : N ≤ g ∧ ∃ c T f, w.heap[g]? = some (.cells c T f) := by
  obtain ⟨h1, h2⟩ := h
  rcases h2 with ⟨rfl, _⟩ | ⟨g', cap, cur, rfl, hb, hh, r⟩
  · cases hg
  · have e : some g' = some g := hg
    injection e with e
    subst e
    exact ⟨hb, _, _, _, hh⟩
theorem OwnI.blk {w : World} {N g : Nat} {v : Value} {L : List Sl} (h : OwnI w N v L) (hg : v.ownBlock = some g) : N ≤ g ∧ ∃ c f, w.heap[g]? = some (.cells c 30 f) := by
  obtain ⟨h1, h2⟩ := h
  rcases h2 with ⟨rfl, _⟩ | ⟨g', cap, cur, rfl, hb, hh, r⟩
  · cases hg
  · have e : some g' = some g := hg
    injection e with e
    subst e
    exact ⟨hb, _, _, hh⟩
/-- What Enter and Leave change is another block. -/
theorem OwnI.slots {w w' : World} {N P M : Nat} {v : Value} {L L2 : List Sl} (h : OwnI w N v L) (hs : SlW w P M L2) (hg : w.grownBy w' (some M)) : OwnI w' N v L := h.same fun g hv => by
  obtain ⟨_, c, T, f, hc⟩ := h.cells hv
  exact hg.block g (heap_lt hc) (ne_map hs hc)
theorem append_at (w : World) (ty : TypeId) (v : Value) (N : Nat) (L R : List Sl) (ad : Addr) (c : Nat) (h : OwnI w N v L) (hN : N ≤ w.heap.size) (hs : ∀ j u, (rowI R)[j]? = some u → w.cell? (ad.add j) = some u) (hbig : L.length + R.length ≤ 1000000) :
    ∃ v' w', (Builtin.append_ #[28, 28] ty #[v, .slice (some ad) R.length c]).run Try.prog w = .ok v' w' ∧ OwnI w' N v' (L ++ R) ∧ w.grownBy w' v.ownBlock ∧ (v'.ownBlock = v.ownBlock ∨ v'.ownBlock = some w.heap.size) := by
  obtain ⟨i0, hi0, hz0, hz1, hz2⟩ := info_parts info_in
  obtain ⟨v', w', hr, h1, h2, h3, h4⟩ := run_append_own_at (P := Try.prog) w N 28 ty 30 i0 _ 2 24 Try.underlying28 hi0 hz0 hz1 hz2 rfl (by omega) v L.length (rowI L) h ad R.length c (rowI R) (rowI_length R) hs (rowI_one R) (by unfold maxLen; omega) (by omega) hN
  refine ⟨v', w', hr, ?_, h2, h4⟩
  unfold OwnI
  rw [rowI_append, List.length_append]
  exact h1
theorem own_below {w w' : World} {N : Nat} {v : Value} {L : List Sl} (h : OwnI w N v L) (hg : w.grownBy w' v.ownBlock) (hN : N ≤ w.heap.size) : Below N w w' :=
  ⟨hg.os, hg.tape, hg.output, hg.size, fun k hk => hg.block k (by omega) (fun e => absurd (h.cells e.symm).1 (by omega))⟩
theorem wpList_app {w : World} {ops : Array Oper} {rest : List Oper} {o : Oper} {a : Act} {Q : Exit → Act → World → Prop} (hgd : o.guard = none) (s x : Operand)
    (ho : o.op = .call { callee := .builtin .append, args := #[s, x], argTypes := #[28, 28] }) (v : Value) (N : Nat) (L R : List Sl) (ad : Addr) (c : Nat)
    (hs : a.eval s = v) (hx : a.eval x = .slice (some ad) R.length c) (h : OwnI w N v L) (hN : N ≤ w.heap.size) (hsrc : ∀ j u, (rowI R)[j]? = some u → w.cell? (ad.add j) = some u) (hbig : L.length + R.length ≤ 1000000)
    (hK : ∀ v' w', Hid (OwnI w' N v' (L ++ R)) → Hid (w.grownBy w' v.ownBlock) → Hid (wpList Try.prog ops Q rest (a.put o.dst v') w')) : wpList Try.prog ops Q (o :: rest) a w := by
  obtain ⟨v', w', hr, h1, h2, -⟩ := append_at w o.type v N L R ad c h hN hsrc hbig
  refine wpList_plain hgd fun K hK' => ?_
  unfold Oper.wp
  rw [← hs, ← hx] at hr
  simp [execOp, ho, resolve, invoke, builtin, hr, Result.andThen]
  exact hK' _ _ (hK v' w' h1 h2)
theorem kUpon_app {a : Act} {o : Oper} {u u' : World} {K : Value → World → Prop} {v' : Value} (s x : Operand) (ho : o.op = .call { callee := .builtin .append, args := #[s, x], argTypes := #[28, 28] })
    (hrun : (Builtin.append_ #[28, 28] o.type #[a.eval s, a.eval x]).run Try.prog u = .ok v' u') (h : K v' u') : Rk.kUpon Try.prog K ((execOp a.eval o).run Try.prog u) := by
  have e : (execOp a.eval o).run Try.prog u = .ok (.value v') u' := by
    simp [execOp, ho, resolve, invoke, builtin, hrun, Result.andThen]
  rw [e]
  exact h
/-- The memory while one is taken out: nothing, the front, the front and the rest. -/
structure T31 (w : World) (F G : List Sl) (h : List Value) (u : World) : Prop where
  below : Below w.heap.size w u
  one : h.length = 1 → ∀ v, h[0]? = some v → OwnI u w.heap.size v []
  two : h.length = 2 → ∀ v, h[1]? = some v → OwnI u w.heap.size v F
  three : h.length = 3 → ∀ v, h[2]? = some v → OwnI u w.heap.size v G
theorem OwnI.less {w : World} {N M : Nat} {v : Value} {L : List Sl} (h : OwnI w N v L) (hM : M ≤ N) : OwnI w M v L := by
  obtain ⟨h1, h2⟩ := h
  refine ⟨h1, ?_⟩
  rcases h2 with h2 | ⟨g, cap, cur, e, hb, r⟩
  · exact .inl h2
  · exact .inr ⟨g, cap, cur, e, Nat.le_trans hM hb, r⟩
/-- Who was found last. -/
def FdL (L : List Sl) (who : Int) (k : Nat) (x : Int) : Prop := (x = -1 ∧ ∀ u ∈ L.take k, u.1 ≠ who) ∨ ∃ (i : Nat) (u : Sl), x = (i : Int) ∧ L[i]? = some u ∧ u.1 = who
theorem FdL.zero (L : List Sl) (who : Int) : FdL L who 0 (-1) := .inl ⟨rfl, fun u hu => by simp at hu⟩
theorem FdL.hit {L : List Sl} {who : Int} {k : Nat} {u : Sl} (hk : L[k]? = some u) (he : u.1 = who) : FdL L who (k + 1) (k : Int) := .inr ⟨k, u, rfl, hk, he⟩
theorem FdL.miss {L : List Sl} {who : Int} {k : Nat} {x : Int} {u : Sl} (h : FdL L who k x) (hk : L[k]? = some u) (he : u.1 ≠ who) : FdL L who (k + 1) x := by
  rcases h with ⟨h1, h2⟩ | h
  · refine .inl ⟨h1, fun y hy => ?_⟩
    rw [List.take_add_one, hk] at hy
    rcases List.mem_append.1 hy with hy | hy
    · exact h2 y hy
    · simp at hy; rw [hy]; exact he
  · exact .inr h
theorem FdL.done {L : List Sl} {who : Int} {k : Nat} {x : Int} (h : FdL L who k x) (hk : L.length ≤ k) (ho : Once L) : (x = -1 ∧ placed L who = false) ∨ ∃ (i : Nat) (u : Sl), x = (i : Int) ∧ L[i]? = some u ∧ u.1 = who ∧ placed L who = true ∧ L.filter (fun u => !isWho who u) = L.take i ++ L.drop (i + 1) := by
  rcases h with ⟨h1, h2⟩ | ⟨i, u, h1, h2, h3⟩
  · rw [List.take_of_length_le hk] at h2
    exact .inl ⟨h1, placed_false_iff.2 h2⟩
  · refine .inr ⟨i, u, h1, h2, h3, placed_true (List.mem_of_getElem? h2) h3, ?_⟩
    have hs := Km.split_at L i u h2
    have ho' := ho
    rw [hs] at ho'
    obtain ⟨k1, k2, k3⟩ := List.pairwise_append.1 ho'
    obtain ⟨k4, k5⟩ := List.pairwise_cons.1 k2
    have f1 : (L.take i).filter (fun u => !isWho who u) = L.take i := List.filter_eq_self.2 (fun y hy => by
      have := k3 y hy u List.mem_cons_self
      rw [h3] at this
      simpa [isWho] using this)
    have f2 : (L.drop (i + 1)).filter (fun u => !isWho who u) = L.drop (i + 1) := List.filter_eq_self.2 (fun y hy => by
      have := k4 y hy
      rw [h3] at this
      simp [isWho, Ne.symm this])
    conv => lhs; rw [hs]
    rw [List.filter_append, List.filter_cons_of_neg (by simp [isWho, h3]), f1, f2]
theorem cnt_take {nm : ByteArray} {L : List Sl} {k : Nat} {u : Sl} (hk : L[k]? = some u) : cnt nm (L.take (k + 1)) = cnt nm (L.take k) + if isIn nm u then 1 else 0 := by
  rw [List.take_add_one, hk]
  exact cnt_snoc nm _ u
/-- Where the one who asks was found last. -/
def WhL (L : List Sl) (who : Int) (k : Nat) (s : ByteArray) (b : Bool) : Prop := (b = false ∧ s = ⟨#[]⟩ ∧ ∀ u ∈ L.take k, u.1 ≠ who) ∨ (b = true ∧ (who, s) ∈ L)
theorem WhL.zero (L : List Sl) (who : Int) : WhL L who 0 ⟨#[]⟩ false := .inl ⟨rfl, rfl, fun u hu => by simp at hu⟩
theorem WhL.hit {L : List Sl} {who : Int} {k : Nat} {u : Sl} (hk : L[k]? = some u) (he : u.1 = who) : WhL L who (k + 1) u.2 true := .inr ⟨rfl, by rw [← he]; exact List.mem_of_getElem? hk⟩
theorem WhL.miss {L : List Sl} {who : Int} {k : Nat} {s : ByteArray} {b : Bool} {u : Sl} (h : WhL L who k s b) (hk : L[k]? = some u) (he : u.1 ≠ who) : WhL L who (k + 1) s b := by
  rcases h with ⟨h0, h1, h2⟩ | h
  · refine .inl ⟨h0, h1, fun y hy => ?_⟩
    rw [List.take_add_one, hk] at hy
    rcases List.mem_append.1 hy with hy | hy
    · exact h2 y hy
    · simp at hy; rw [hy]; exact he
  · exact .inr h
theorem WhL.done {L : List Sl} {who : Int} {k : Nat} {s : ByteArray} {b : Bool} (h : WhL L who k s b) (hk : L.length ≤ k) (ho : Once L) : inV L who = .tuple #[.string s, .bool b] := by
  rcases h with ⟨rfl, rfl, h2⟩ | ⟨rfl, h2⟩
  · rw [List.take_of_length_le hk] at h2
    exact inV_false (placed_false_iff.2 h2)
  · exact inV_true ho h2
end Go.Proofs.Ytlhjkacdhfchiaa.Xf
