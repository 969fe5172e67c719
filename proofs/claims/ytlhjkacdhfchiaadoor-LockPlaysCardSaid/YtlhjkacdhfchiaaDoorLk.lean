/- lock: Release. -/
import Derived.Test.YtlhjkacdhfchiaaDoorLj
namespace Go.Proofs.YtlhjkacdhfchiaaDoor.Lk
set_option linter.unusedVariables false
set_option linter.unusedSimpArgs false
set_option maxRecDepth 100000
open Go.ChangeShapes Go.WideShapes Go.ChangeAt Go.RowKit
open Go.Proofs.YtlhjkacdhfchiaaDoor.Wu Go.Proofs.YtlhjkacdhfchiaaDoor.Rk Go.Proofs.YtlhjkacdhfchiaaDoor.Rg Go.Proofs.YtlhjkacdhfchiaaDoor.Ps Go.Proofs.YtlhjkacdhfchiaaDoor.Pu Go.Proofs.YtlhjkacdhfchiaaDoor.Px Go.Proofs.YtlhjkacdhfchiaaDoor.La Go.Proofs.YtlhjkacdhfchiaaDoor.Lb Go.Proofs.YtlhjkacdhfchiaaDoor.Lc Go.Proofs.YtlhjkacdhfchiaaDoor.Ld Go.Proofs.YtlhjkacdhfchiaaDoor.Le Go.Proofs.YtlhjkacdhfchiaaDoor.Lg Go.Proofs.YtlhjkacdhfchiaaDoor.Lh Go.Proofs.YtlhjkacdhfchiaaDoor.Li Go.Proofs.YtlhjkacdhfchiaaDoor.Lj
open Go.Proofs.YtlhjkacdhfchiaaDoor.Ba (of_hid)
attribute [local go_sem] kUpon_value kUpon_skip kUpon_enter
theorem info_int : (Tryd.prog.info? 3).map (fun i => (i.zero, i.size, i.bytes)) = some (some (.int .i64 0), 1, 8) := by kernel_rfl
/-- Numbers in a slice of one's own. -/
def OwnN (w : World) (N : Nat) (v : Value) (zs : List Int) : Prop := w.ownsRow N 3 1 v zs.length (zs.map (Value.int .i64))
theorem OwnN.nil (w : World) (N : Nat) : OwnN w N (.slice none 0 0) [] := World.ownsRow_nil _ _ _ _
theorem OwnN.form {w : World} {N : Nat} {v : Value} {zs : List Int} (h : OwnN w N v zs) : ∃ a c g, v = .slice a zs.length c ∧ zs.length ≤ c ∧ c ≤ 9223372036854775807 ∧ (0 < zs.length → a = some ⟨g, 0, none⟩) ∧ ∀ i z, zs[i]? = some z → w.cell? ⟨g, i, none⟩ = some (.int .i64 z) := by
  obtain ⟨h1, h2⟩ := h
  rcases h2 with ⟨rfl, hn⟩ | ⟨g, cap, cur, rfl, hb, hg, hl, hm, hs, ht⟩
  · obtain rfl : zs = [] := List.length_eq_zero_iff.1 hn
    exact ⟨none, 0, 0, rfl, Nat.le_refl _, by omega, fun h => absurd h (by simp), fun i u h => by simp at h⟩
  · unfold maxLen at hm
    refine ⟨some ⟨g, 0, none⟩, cap, g, rfl, hl, by omega, fun _ => rfl, fun i z hi => blk_cell hg ?_⟩
    have h3 : (zs.map (Value.int .i64))[i]? = some (.int .i64 z) := by rw [List.getElem?_map, hi]; rfl
    rw [← ht, List.getElem?_take] at h3
    split at h3
    · simpa using h3
    · cases h3
theorem OwnN.same {w w' : World} {N : Nat} {v : Value} {zs : List Int} (h : OwnN w N v zs) (hk : ∀ g, v.ownBlock = some g → w'.heap[g]? = w.heap[g]?) : OwnN w' N v zs := by
  obtain ⟨h1, h2⟩ := h
  refine ⟨h1, ?_⟩
  rcases h2 with h | ⟨g, cap, cur, rfl, hb, hg, r⟩
  · exact .inl h
  · exact .inr ⟨g, cap, cur, rfl, hb, (hk g rfl).trans hg, r⟩
theorem OwnN.below {w w' : World} {N : Nat} {v : Value} {zs : List Int} (h : OwnN w N v zs) (hb : Below w.heap.size w w') : OwnN w' N v zs := h.same fun g hg => hb.block g (World.ownsRow.lt h g hg).2
theorem OwnN.blk {w : World} {N g : Nat} {v : Value} {zs : List Int} (h : OwnN w N v zs) (hg : v.ownBlock = some g) : N ≤ g ∧ ∃ c f, w.heap[g]? = some (.cells c 3 f) := by
  obtain ⟨h1, h2⟩ := h
  rcases h2 with ⟨rfl, _⟩ | ⟨g', cap, cur, rfl, hb, hh, r⟩
  · cases hg
  · have e : some g' = some g := hg
    injection e with e
    subst e
    exact ⟨hb, _, _, hh⟩
theorem wpList_appN {w : World} {ops : Array Oper} {rest : List Oper} {o : Oper} {a : Act} {Q : Exit → Act → World → Prop} (hgd : o.guard = none) (s x : Operand)
    (ho : o.op = .call { callee := .builtin .append, args := #[s, x], argTypes := #[23, 23] }) (v : Value) (N : Nat) (zs : List Int) (b : Nat) (z : Int) (T : TypeId) (f : Nat × Nat) (c : Nat)
    (hs : a.eval s = v) (hx : a.eval x = .slice (some ⟨b, 0, none⟩) 1 c) (h : OwnN w N v zs) (hN : N ≤ w.heap.size) (hb : w.heap[b]? = some (.cells #[.int .i64 z] T f)) (hbig : zs.length ≤ 1000000)
    (hK : ∀ v' w', Hid (OwnN w' N v' (zs ++ [z])) → Hid (w.grownBy w' v.ownBlock) → Hid (wpList Tryd.prog ops Q rest (a.put o.dst v') w')) : wpList Tryd.prog ops Q (o :: rest) a w := by
  obtain ⟨i0, hi0, hz0, hz1, hz2⟩ := info_parts info_int
  obtain ⟨v', w', hr, h1, h2, h3, h4⟩ := run_append_own_at (P := Tryd.prog) w N 23 o.type 3 i0 _ 1 8 Tryd.underlying23 hi0 hz0 hz1 hz2 rfl (by omega) v zs.length _ h ⟨b, 0, none⟩ 1 c [.int .i64 z] rfl (fun j u hu => by
      rw [Addr.add_mid, Nat.zero_add]
      exact blk_cell hb (by simpa using hu)) (fun u hu => by rw [List.mem_singleton.1 hu]; rfl) (by unfold maxLen; omega) (by omega) hN
  refine wpList_plain hgd fun K hK' => ?_
  unfold Oper.wp
  rw [← hs, ← hx] at hr
  simp [execOp, ho, resolve, invoke, builtin, hr, Result.andThen]
  refine hK' _ _ (hK v' w' ?_ h2)
  show OwnN w' N v' (zs ++ [z])
  unfold OwnN
  rw [List.length_append, List.map_append]
  exact h1
theorem LkA.same {w w' : World} {N P : Nat} {v : Value} {us : List La.Ask} {L : List Wh} (h : LkA w N P v us L) (hk : ∀ (k : Nat) (c : Array Value) (T : TypeId) (f : Nat × Nat), w.heap[k]? = some (Obj.cells c T f) → T ≠ 3 → w'.heap[k]? = w.heap[k]?) : LkA w' N P v us L :=
  ⟨(hk P _ _ _ h.obj (by decide)).trans h.obj, h.own.same fun g hg => by
    obtain ⟨_, c, f, hc⟩ := Li.OwnA.blk h.own hg
    exact hk g _ _ _ hc (by decide), h.len, fun i u x h1 h2 => ⟨(h.each i u x h1 h2).1, (h.each i u x h1 h2).2.same fun g hg => by
    obtain ⟨_, c, f, hc⟩ := Li.OwnS.blk (h.each i u x h1 h2).2 hg
    exact hk g _ _ _ hc (by decide)⟩, h.low, h.few⟩
/-- Who has theirs by a release: of those from the i-th on, the first k. -/
def nx (L : List Wh) (T : List (List UInt8)) (i : Nat) : Nat → List Int
  | 0 => []
  | k + 1 => nx L T i k ++ (match L[i + k]? with
    | some y => if way y.2 T && freeL L (i + k) then [y.1] else []
    | none => [])
theorem nx_len (L : List Wh) (T : List (List UInt8)) (i : Nat) : ∀ k, (nx L T i k).length ≤ k
  | 0 => Nat.le_refl _
  | k + 1 => by
    have := nx_len L T i k
    unfold nx
    rw [List.length_append]
    split
    · split <;> simp <;> omega
    · simp; omega
/-- Release's answer. -/
def RelR (w : World) (N P : Nat) (L : List Wh) (who : Int) (e : Ending) (w' : World) : Prop := match L.findIdx? (whoIs who) with
  | none => e = .returned (.tuple #[.slice none 0 0, .int .i64 4]) ∧ Below w.heap.size w w'
  | some i => ∃ v x, L[i]? = some x ∧ e = .returned (.tuple #[v, .int .i64 0]) ∧ OwnN w' w.heap.size v (nx (L.take i ++ L.drop (i + 1)) x.2 i (L.length - 1 - i)) ∧ LkW w' N P (L.take i ++ L.drop (i + 1)) ∧ Kp w w' ∧ Below N w w'
/-- What the loop over those behind keeps. -/
structure RS (w : World) (N P R : Nat) (v' : Value) (us' : List La.Ask) (L' : List Wh) (n0 : Int) (aX : Option Addr) (mX cX : Nat) (T : List (List UInt8)) (wr : World) : Prop where
  lk : LkA wr N P v' us' L'
  rel : wr.heap[R]? = some (.cells #[.int .i64 n0, .slice aX mX cX] 111 (0, 0))
  txt : OwnS wr N (.slice aX mX cX) T
  kp : Kp w wr
  below : Below N w wr
theorem RS.up {w wr wq : World} {N P R : Nat} {v' : Value} {us' : List La.Ask} {L' : List Wh} {n0 : Int} {aX : Option Addr} {mX cX : Nat} {T : List (List UInt8)} (h : RS w N P R v' us' L' n0 aX mX cX T wr) (hN : N ≤ wr.heap.size) (hb : Below wr.heap.size wr wq) : RS w N P R v' us' L' n0 aX mX cX T wq :=
  ⟨h.lk.below hb, below_blk hb (heap_lt h.rel) h.rel, own_up h.txt hb, Kp.below h.kp hb, h.below.trans (hb.mono hN)⟩
theorem RS.app {w wr wq : World} {N P R : Nat} {v' : Value} {us' : List La.Ask} {L' : List Wh} {n0 : Int} {aX : Option Addr} {mX cX : Nat} {T : List (List UInt8)} {v : Value} {zs : List Int} {M : Nat} (h : RS w N P R v' us' L' n0 aX mX cX T wr) (ho : OwnN wr M v zs) (hM : w.heap.size ≤ M) (hNw : N ≤ w.heap.size) (hN : N ≤ wr.heap.size) (hg : wr.grownBy wq v.ownBlock) : RS w N P R v' us' L' n0 aX mX cX T wq := by
  have hk : ∀ (k : Nat) (c : Array Value) (T : TypeId) (f : Nat × Nat), wr.heap[k]? = some (Obj.cells c T f) → T ≠ 3 → wq.heap[k]? = wr.heap[k]? := fun k c T f hc hT => hg.block k (heap_lt hc) (fun e => by
    obtain ⟨_, c', f', hc'⟩ := ho.blk e.symm
    exact ne_cells hc hc' hT rfl)
  refine ⟨Lk.LkA.same h.lk hk, (hk _ _ _ _ h.rel (by decide)).trans h.rel, h.txt.same fun g hgv => ?_, fun k o ho2 n1 n2 => ?_, h.below.grown hg hN (fun k hk2 => by have := (ho.blk hk2).1; omega)⟩
  · obtain ⟨_, c, f, hc⟩ := Li.OwnS.blk h.txt hgv
    exact hk g _ _ _ hc (by decide)
  · have hlt := heap_lt ho2
    have h3 := h.kp k o ho2 n1 n2
    refine (hg.block k (heap_lt h3) (fun e => ?_)).trans h3
    have := (ho.blk e.symm).1
    omega
end Go.Proofs.YtlhjkacdhfchiaaDoor.Lk
