/- A map told by the list of its entries: ranged over, in whatever order. For any program. -/
import Derived.Test.YtlhjkacdhfchiaaKm
import Derived.Maps.RangeWalk
namespace Go.Proofs.Ytlhjkacdhfchiaa.Xa
set_option linter.unusedVariables false
set_option linter.unusedSimpArgs false
set_option maxRecDepth 100000
open Go.ChangeShapes Go.WideShapes Go.MapKept Go.Maps Go.RowKit
open Go.ChangeMaps
open Go.WideElems (Fit rd rg pl rd_key rd_val rg_of rd_mk other_key)
open Go.Proofs.Ytlhjkacdhfchiaa.Km
/-- Block r is an iterator over the map in block b, whose entries are l; those of left are to come. -/
def RngL (P : Program) (k : TypeId) (w : World) (b r : Nat) (l left : List (Value × Value)) : Prop :=
  ∃ es clock since seen c0, w.heap[b]? = some (.map es clock) ∧ Fit P k triv es clock ∧ l = pairs es ∧ w.heap[r]? = some (.mapIter (some b) since seen c0) ∧ (∀ x ∈ es.toList, x.born < since) ∧ left = pairs (leftOf es seen) ∧ since ≤ c0 ∧ since ≤ clock
theorem perm_strike : ∀ {M : List MapEntry} {e : MapEntry}, M.Pairwise (fun x y => x.born ≠ y.born) → e ∈ M → M.Perm (e :: M.filter (fun x => !(x.born == e.born)))
  | [], e, _, h => by cases h
  | a :: M, e, hp, h => by
    obtain ⟨h1, h2⟩ := List.pairwise_cons.1 hp
    rcases List.mem_cons.1 h with rfl | h
    · have : M.filter (fun x => !(x.born == e.born)) = M := by
        rw [List.filter_eq_self]
        intro x hx
        have := h1 x hx
        simp [Ne.symm this]
      simp [this]
    · have hne := h1 e h
      have ih := perm_strike h2 h
      rw [List.filter_cons_of_pos (by simp [hne])]
      exact (ih.cons a).trans (List.Perm.swap e a _)
theorem un {p : Prop} (h : p) : Hid p := h
section
variable {P : Program} {k t e : TypeId} {w : World} {b r : Nat} {l left : List (Value × Value)}
theorem RngL.map (h : RngL P k w b r l left) : MapL P k w b l := by
  obtain ⟨es, clock, since, seen, c0, hb, F, hl, _⟩ := h
  exact ⟨es, clock, hb, F, hl⟩
theorem RngL.ne (h : RngL P k w b r l left) : r ≠ b := by
  obtain ⟨es, clock, since, seen, c0, hb, _, _, hr, _⟩ := h
  intro e
  rw [e, hb] at hr
  cases hr
theorem RngL.lt (h : RngL P k w b r l left) : r < w.heap.size := by
  obtain ⟨es, clock, since, seen, c0, _, _, _, hr, _⟩ := h
  exact (Array.getElem?_eq_some_iff.1 hr).1
theorem RngL.same {w' : World} (h : RngL P k w b r l left) (e : w'.heap[b]? = w.heap[b]?) (e' : w'.heap[r]? = w.heap[r]?) : RngL P k w' b r l left := by
  obtain ⟨es, clock, since, seen, c0, hb, F, hl, hr, rest⟩ := h
  exact ⟨es, clock, since, seen, c0, e.trans hb, F, hl, e'.trans hr, rest⟩
theorem MapL.len (h : MapL P k w b l) (ht : P.underlying t = some (.map k e)) (ty : TypeId) : (Builtin.len_ #[t] ty #[.map (some b)]).run P w = .ok (.int .i64 (l.length : Int)) w := by
  obtain ⟨es, clock, hb, F, rfl⟩ := h
  simp [Builtin.len_, run_underlying ht, MapKept.run_getObj_map hb, goInt, pairs]
theorem MapL.range (h : MapL P k w b l) (ht : P.underlying t = some (.map k e)) :
    ∃ w', (Instr.range t (.map (some b))).run P w = .ok (.pointer (some ⟨w.heap.size, 0, none⟩)) w' ∧ RngL P k w' b w.heap.size l l ∧ w.grownBy w' none ∧ w'.heap.size = w.heap.size + 1 := by
  have hlt := h.lt
  obtain ⟨es, clock, hb, F, rfl⟩ := h
  refine ⟨_, run_range_map w t k e b es clock ht hb, ⟨es, clock, clock, #[], clock, ((MapKept.heap_alloc w _).2 b hlt).trans hb, F, rfl, (MapKept.heap_alloc w _).1, F.stamped.1, ?_, Nat.le_refl _, Nat.le_refl _⟩, World.grownBy_alloc w _ none, by simp⟩
  have : leftOf es #[] = es := by unfold leftOf; exact Array.filter_eq_self.2 (fun x _ => by simp)
  rw [this]
theorem RngL.next (h : RngL P k w b r l left) (ty : TypeId) :
    (left = [] ∧ (Instr.next (.pointer (some ⟨r, 0, none⟩)) false ty).run P w = .ok (.tuple #[.bool false]) w) ∨
    ∃ p left' w', p ∈ l ∧ left.Perm (p :: left') ∧ (Instr.next (.pointer (some ⟨r, 0, none⟩)) false ty).run P w = .ok (.tuple #[.bool true, p.1, p.2]) w' ∧ RngL P k w' b r l left' ∧ w.grownBy w' (some r) ∧ w'.heap.size = w.heap.size ∧
      (Instr.entry (.pointer (some ⟨r, 0, none⟩))).run P w' = .ok (.tuple #[p.1, p.2]) w' := by
  have hne := h.ne
  obtain ⟨es, clock, since, seen, c0, hb, F, rfl, hr, hold, rfl, hsc, hsk⟩ := h
  rcases run_next_at (P := P) w ty r b since c0 seen es clock hr hb hold hsc with ⟨h0, hrun⟩ | ⟨e, he, w1, hal, hrun⟩
  · refine .inl ⟨?_, hrun⟩
    have : leftOf es seen = #[] := Array.eq_empty_of_size_eq_zero h0
    rw [this]
    rfl
  · obtain ⟨hem, hes⟩ := mem_left he
    have hr1 : w1.heap[r]? = some (.mapIter (some b) since seen c0) := by rcases hal with rfl | rfl <;> exact hr
    have hb1 : w1.heap[b]? = some (.map es clock) := by rcases hal with rfl | rfl <;> exact hb
    have hset := heap_set (o' := .mapIter (some b) since (seen.push e.born) clock) hr1
    have hb' : (setBlock w1 r (.mapIter (some b) since (seen.push e.born) clock)).heap[b]? = some (.map es clock) := (hset.2 b (fun e1 => hne e1.symm)).trans hb1
    have hst := (stamped_iff es clock).1 F.stamped
    refine .inr ⟨(e.key, e.val), pairs (leftOf es (seen.push e.born)), _, ?_, ?_, hrun, ⟨es, clock, since, seen.push e.born, clock, hb', F, rfl, hset.1, hold, rfl, hsk, hsk⟩, ?_, ?_,
      run_entry_at _ r b since seen es clock e hset.1 hb' hem hst.2.1⟩
    · exact List.mem_map.2 ⟨e, hem, rfl⟩
    · have hp : ((leftOf es seen).toList).Pairwise (fun x y => x.born ≠ y.born) := by
        have h1 : es.toList.Pairwise (fun x y => x.born ≠ y.born) := List.pairwise_map.1 hst.2.1
        unfold leftOf
        rw [Array.toList_filter]
        exact h1.sublist List.filter_sublist
      have hpm := (perm_strike hp he).map (fun x : MapEntry => (x.key, x.val))
      have e1 : (leftOf es (seen.push e.born)).toList = (leftOf es seen).toList.filter (fun x => !(x.born == e.born)) := by
        unfold leftOf
        rw [Array.toList_filter, Array.toList_filter, List.filter_filter]
        refine List.filter_congr fun x _ => ?_
        rw [contains_push]
        cases seen.contains x.born <;> cases (x.born == e.born) <;> rfl
      show (List.map _ (leftOf es seen).toList).Perm (_ :: List.map _ (leftOf es (seen.push e.born)).toList)
      rw [e1]
      simpa using hpm
    · rcases hal with rfl | rfl <;> exact ⟨rfl, rfl, rfl, by simp [setBlock], fun i _ hi => hset.2 i (fun e1 => hi (by rw [e1]))⟩
    · rcases hal with rfl | rfl <;> simp [setBlock]
end
/-- How many are to come, read off the world. -/
def toCome (w : World) (b r : Nat) : Nat :=
  match w.heap[b]?, w.heap[r]? with
  | some (.map es _), some (.mapIter _ _ seen _) => (leftOf es seen).size
  | _, _ => 0
theorem RngL.come {P : Program} {k : TypeId} {w : World} {b r : Nat} {l left : List (Value × Value)} (h : RngL P k w b r l left) : toCome w b r = left.length := by
  obtain ⟨es, clock, since, seen, c0, hb, _, _, hr, _, rfl, _⟩ := h
  simp [toCome, hb, hr, pairs]
section
variable {P : Program} {w : World} {ops : Array Oper} {rest : List Oper} {o : Oper} {a : Act} {Q : Exit → Act → World → Prop}
theorem wpList_range (hg : o.guard = none) (m : Operand) (t : TypeId) (hop : o.op = Op.range t m) (k e : TypeId) (ht : P.underlying t = some (.map k e)) (b : Nat) (l : List (Value × Value))
    (hm : a.eval m = .map (some b)) (h : MapL P k w b l)
    (hK : ∀ w', Hid (RngL P k w' b w.heap.size l l) → Hid (w.grownBy w' none) → Hid (w'.heap.size = w.heap.size + 1) → Hid (wpList P ops Q rest (a.put o.dst (.pointer (some ⟨w.heap.size, 0, none⟩))) w')) : wpList P ops Q (o :: rest) a w := by
  refine wpList_plain hg fun K' hK' => ?_
  obtain ⟨w', hrun, r1, r2, r3⟩ := MapL.range h ht
  unfold Oper.wp
  simp [execOp, hop, hm, hrun, Result.andThen]
  exact hK' _ _ (hK w' r1 r2 r3)
theorem wpList_next (hg : o.guard = none) (it : Operand) (hop : o.op = Op.next it false) (k : TypeId) (b r : Nat) (l left : List (Value × Value)) (hit : a.eval it = .pointer (some ⟨r, 0, none⟩)) (h : RngL P k w b r l left)
    (hDone : left = [] → Hid (wpList P ops Q rest (a.put o.dst (.tuple #[.bool false])) w))
    (hMore : ∀ pk pv left' w', Here l pk pv → Hid (left.Perm ((pk, pv) :: left')) → Hid (RngL P k w' b r l left') → Hid (w.grownBy w' (some r)) → Hid (w'.heap.size = w.heap.size) → (Instr.entry (.pointer (some ⟨r, 0, none⟩))).run P w' = .ok (.tuple #[pk, pv]) w' → Hid (wpList P ops Q rest (a.put o.dst (.tuple #[.bool true, pk, pv])) w')) : wpList P ops Q (o :: rest) a w := by
  refine wpList_plain hg fun K' hK' => ?_
  unfold Oper.wp
  rcases h.next o.type with ⟨h0, hrun⟩ | ⟨p, left', w', h1, h2, hrun, h3, h4, h5, h6⟩
  · simp [execOp, hop, hit, hrun, Result.andThen]
    exact hK' _ _ (hDone h0)
  · simp [execOp, hop, hit, hrun, Result.andThen]
    exact hK' _ _ (hMore p.1 p.2 left' w' h1 h2 h3 h4 h5 h6)
end
end Go.Proofs.Ytlhjkacdhfchiaa.Xa
