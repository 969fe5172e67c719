/- Frames of the caller's in a slice of the call's own. -/
import Derived.Test.YtofflmhfffphdaaFb
import Derived.Test.YtofflmhfffphdaaFd
import Derived.Test.YtofflmhfffphdaaFq
import Derived.Maps.AppendAt
namespace Go.Proofs.Ytofflmhfffphdaa.Gr
set_option linter.unusedVariables false
set_option linter.unusedSimpArgs false
set_option maxRecDepth 100000
open Go.RowKit
open Go.Proofs.Ytofflmhfffphdaa.Wu Go.Proofs.Ytofflmhfffphdaa.Sm Go.Proofs.Ytofflmhfffphdaa.Sh Go.Proofs.Ytofflmhfffphdaa.Ba Go.Proofs.Ytofflmhfffphdaa.Bp Go.Proofs.Ytofflmhfffphdaa.Bq Go.Proofs.Ytofflmhfffphdaa.Cm Go.Proofs.Ytofflmhfffphdaa.Fa Go.Proofs.Ytofflmhfffphdaa.Fb Go.Proofs.Ytofflmhfffphdaa.Fo Go.Proofs.Ytofflmhfffphdaa.Fq
/-- A frame: its kind, its stream, its data's slice, and what lies there. -/
structure G where
  k : Nat
  s : Nat
  a : Option Addr
  l : Nat
  c : Nat
  d : List Nat
def G.good (w : World) (x : G) : Prop := 1 ≤ x.k ∧ x.k ≤ 31 ∧ x.s ≤ 7 ∧ x.l ≤ 16384 ∧ x.l ≤ x.c ∧ SrcB w x.a x.l x.d ∧ (x.a = none → x.l = 0)
def gb : List G → List Nat
  | [] => []
  | x :: xs => frL x.k x.s x.d ++ gb xs
def gc : List G → List Value
  | [] => []
  | x :: xs => .int .i64 (x.k : Int) :: .int .i64 (x.s : Int) :: .slice x.a x.l x.c :: gc xs
theorem gb_snoc (xs : List G) (x : G) : gb (xs ++ [x]) = gb xs ++ frL x.k x.s x.d := by
  induction xs with
  | nil => simp [gb]
  | cons y ys ih => simp only [List.cons_append, gb, ih, List.append_assoc]
theorem gb_drop : ∀ (xs : List G) (j : Nat), (gb (xs.drop j)).length ≤ (gb xs).length
  | [], j => by simp
  | x :: xs, 0 => Nat.le_refl _
  | x :: xs, j + 1 => by
    have := gb_drop xs j
    simp only [List.drop_succ_cons, gb, List.length_append]
    omega
theorem gc_snoc (xs : List G) (x : G) : gc (xs ++ [x]) = gc xs ++ [.int .i64 (x.k : Int), .int .i64 (x.s : Int), .slice x.a x.l x.c] := by
  induction xs with
  | nil => rfl
  | cons y ys ih => simp only [List.cons_append, gc, ih]
theorem frL_length (k s : Nat) (D : List Nat) : (frL k s D).length = 1 + (numL D.length).length + D.length := by unfold frL; simp; omega
theorem frL_max {w : World} {x : G} (h : x.good w) : (frL x.k x.s x.d).length ≤ 16400 ∧ 2 ≤ (frL x.k x.s x.d).length := by
  have hl := h.2.2.2.2.2.1.1
  have hm := h.2.2.2.1
  have := numL_six x.d.length (by omega)
  have hp := numL_pos x.d.length
  rw [frL_length]
  omega
theorem gc_at : ∀ (xs : List G) (i : Nat) (x : G), xs[i]? = some x → (gc xs)[3 * i]? = some (.int .i64 (x.k : Int)) ∧ (gc xs)[3 * i + 1]? = some (.int .i64 (x.s : Int)) ∧ (gc xs)[3 * i + 2]? = some (.slice x.a x.l x.c)
  | [], i, x, h => by cases h
  | y :: ys, 0, x, h => by
    simp only [List.getElem?_cons_zero, Option.some.injEq] at h
    subst h
    exact ⟨rfl, rfl, rfl⟩
  | y :: ys, i + 1, x, h => by
    obtain ⟨q1, q2, q3⟩ := gc_at ys i x (by simpa using h)
    refine ⟨?_, ?_, ?_⟩
    · rw [show 3 * (i + 1) = 3 * i + 3 by omega]; simpa [gc] using q1
    · rw [show 3 * (i + 1) + 1 = 3 * i + 1 + 3 by omega]; simpa [gc] using q2
    · rw [show 3 * (i + 1) + 2 = 3 * i + 2 + 3 by omega]; simpa [gc] using q3
def Gs (w : World) (v : Value) (N : Nat) (xs : List G) : Prop := w.ownsRow N 26 3 v xs.length (gc xs)
theorem Gs.nil (w : World) (N : Nat) : Gs w (.slice none 0 0) N [] := World.ownsRow_nil _ _ _ _
theorem Gs.same {w w' : World} {v : Value} {N : Nat} {xs : List G} (h : Gs w v N xs) (hk : ∀ g, v.ownBlock = some g → w'.heap[g]? = w.heap[g]?) : Gs w' v N xs := by
  obtain ⟨h1, h2⟩ := h
  refine ⟨h1, ?_⟩
  rcases h2 with h | ⟨g, cap, cur, e, hb', hg, r⟩
  · exact .inl h
  · exact .inr ⟨g, cap, cur, e, hb', (hk g (by rw [e]; rfl)).trans hg, r⟩
theorem Gs.own {w : World} {v : Value} {N : Nat} {xs : List G} (h : Gs w v N xs) : ∀ g, v.ownBlock = some g → N ≤ g ∧ g < w.heap.size := fun g hg => World.ownsRow.lt h g hg
theorem Gs.below {w w' : World} {v : Value} {N : Nat} {xs : List G} (h : Gs w v N xs) (hb : Below w.heap.size w w') : Gs w' v N xs := h.same (fun g hg => hb.block g (h.own g hg).2)
theorem Gs.form {w : World} {v : Value} {N : Nat} {xs : List G} (h : Gs w v N xs) : ∃ a cap, v = .slice a xs.length cap ∧ xs.length ≤ cap ∧ cap ≤ maxLen := by
  obtain ⟨h1, h2⟩ := h
  rcases h2 with ⟨rfl, hn⟩ | ⟨g, cap, cur, rfl, hb, hg, hl, hm, _⟩
  · exact ⟨none, 0, by rw [hn], by omega, Nat.zero_le _⟩
  · exact ⟨_, cap, rfl, hl, hm⟩
theorem Gs.at {w : World} {v : Value} {N : Nat} {xs : List G} (h : Gs w v N xs) (i : Nat) (x : G) (hx : xs[i]? = some x) :
    ∃ g cap, v = .slice (some ⟨g, 0, none⟩) xs.length cap ∧ w.cell? ⟨g, 3 * i, none⟩ = some (.int .i64 (x.k : Int)) ∧ w.cell? ⟨g, 3 * i + 1, none⟩ = some (.int .i64 (x.s : Int)) ∧ w.cell? ⟨g, 3 * i + 2, none⟩ = some (.slice x.a x.l x.c) := by
  obtain ⟨q1, q2, q3⟩ := gc_at xs i x hx
  have h' := h
  rcases h'.2 with ⟨rfl, hn⟩ | ⟨g, cap, cur, rfl, hb, hg, hl, hm, _⟩
  · obtain rfl := List.length_eq_zero_iff.1 hn
    cases hx
  · have hc := World.ownsRow.cells h (g := g) rfl
    refine ⟨g, cap, rfl, ?_, ?_, ?_⟩
    · have := hc _ _ q1; rwa [Addr.add_mid, Nat.zero_add] at this
    · have := hc _ _ q2; rwa [Addr.add_mid, Nat.zero_add] at this
    · have := hc _ _ q3; rwa [Addr.add_mid, Nat.zero_add] at this
theorem info_fr : (Try.prog.info? 26).map (fun i => (i.zero, i.size, i.bytes)) = some (some (.agg #[.int .i64 0, .int .i64 0, .slice none 0 0]), 3, 40) := by kernel_rfl
theorem cells3 {w : World} {b : Nat} {x y z : Value} {T : TypeId} {f : Nat × Nat} (h : w.heap[b]? = some (.cells #[x, y, z] T f)) : ∀ j u, [x, y, z][j]? = some u → w.cell? ((⟨b, 0, none⟩ : Addr).add j) = some u := by
  intro j u hu
  rw [Addr.add_mid, Nat.zero_add]
  exact blk_cell h (by simpa using hu)
theorem append_g (w : World) (ty : TypeId) (v : Value) (N : Nat) (xs : List G) (b c : Nat) (x : G) (T : TypeId) (fz : Nat × Nat) (h : Gs w v N xs) (hN : N ≤ w.heap.size) (hb : w.heap[b]? = some (.cells #[.int .i64 (x.k : Int), .int .i64 (x.s : Int), .slice x.a x.l x.c] T fz)) (hbig : xs.length ≤ 1000000000) :
    ∃ v' w', (Builtin.append_ #[22, 22] ty #[v, .slice (some ⟨b, 0, none⟩) 1 c]).run Try.prog w = .ok v' w' ∧ Gs w' v' N (xs ++ [x]) ∧ w.grownBy w' v.ownBlock ∧ (v'.ownBlock = v.ownBlock ∨ v'.ownBlock = some w.heap.size) := by
  obtain ⟨i0, hi0, hz0, hz1, hz2⟩ := info_parts info_fr
  obtain ⟨v', w', hr, h1, h2, h3, h4⟩ := run_append_own_at (P := Try.prog) w N 22 ty 26 i0 _ 3 40 Try.underlying22 hi0 hz0 hz1 hz2 rfl (by omega) v xs.length (gc xs) h ⟨b, 0, none⟩ 1 c [.int .i64 (x.k : Int), .int .i64 (x.s : Int), .slice x.a x.l x.c] rfl (cells3 hb) (by intro u hu; simp only [List.mem_cons, List.not_mem_nil, or_false] at hu; rcases hu with rfl | rfl | rfl <;> rfl) (by unfold maxLen; omega) (by omega) hN
  refine ⟨v', w', hr, ?_, h2, h4⟩
  unfold Gs
  rw [gc_snoc]
  simpa using h1
theorem wpList_append_g {w : World} {ops : Array Oper} {rest : List Oper} {o : Oper} {a : Act} {Q : Exit → Act → World → Prop} (hgd : o.guard = none) (sl x : Operand)
    (ho : o.op = .call { callee := .builtin .append, args := #[sl, x], argTypes := #[22, 22] }) (v : Value) (N : Nat) (xs : List G) (b c : Nat) (y : G) (T : TypeId) (fz : Nat × Nat)
    (hs : a.eval sl = v) (hx : a.eval x = .slice (some ⟨b, 0, none⟩) 1 c) (h : Gs w v N xs) (hN : N ≤ w.heap.size) (hb : w.heap[b]? = some (.cells #[.int .i64 (y.k : Int), .int .i64 (y.s : Int), .slice y.a y.l y.c] T fz)) (hbig : xs.length ≤ 1000000000)
    (H : ∀ v' w', Hid (Gs w' v' N (xs ++ [y])) → Hid (w.grownBy w' v.ownBlock) → Hid (v'.ownBlock = v.ownBlock ∨ v'.ownBlock = some w.heap.size) → Hid (wpList Try.prog ops Q rest (a.put o.dst v') w')) : wpList Try.prog ops Q (o :: rest) a w := by
  obtain ⟨v', w', hrun, h1, h2, h3⟩ := append_g w o.type v N xs b c y T fz h hN hb hbig
  refine wpList_plain hgd fun K hK => ?_
  unfold Oper.wp
  simp [execOp, ho, resolve, invoke, builtin, hs, hx, hrun, Result.andThen]
  exact hK _ _ (H v' w' h1 h2 h3)
theorem chk_good {k s : Int} {l : Nat} (h : chk k s l = 0) : 1 ≤ k ∧ k ≤ 31 ∧ 0 ≤ s ∧ s ≤ 7 ∧ l ≤ 16384 := by
  unfold chk at h
  split at h
  · exact absurd h (by decide)
  · split at h
    · exact absurd h (by decide)
    · split at h
      · exact absurd h (by decide)
      · omega
end Go.Proofs.Ytofflmhfffphdaa.Gr
