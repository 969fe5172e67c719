/- errors.Join of two errors. -/
import Derived.Test.YtlhjkacdhfchiaaDoorBp
import Derived.Test.YtlhjkacdhfchiaaDoorRw
import Derived.LoopN
import Derived.Deep.DeepAppendRoom
namespace Go.Proofs.YtlhjkacdhfchiaaDoor.Pj
set_option linter.unusedVariables false
set_option linter.unusedSimpArgs false
set_option maxRecDepth 100000
open Go.ChangeShapes Go.WideShapes Go.ChangeAt Go.RowKit
open Go.Proofs.YtlhjkacdhfchiaaDoor.Wu Go.Proofs.YtlhjkacdhfchiaaDoor.Ba Go.Proofs.YtlhjkacdhfchiaaDoor.Bp Go.Proofs.YtlhjkacdhfchiaaDoor.Rw
theorem mk2 (u : World) : Sem.run Tryd.prog (Instr.makeSlice 182 (.int .i64 0) (.int .i64 2)) u = .ok (.slice (some ⟨u.heap.size, 0, none⟩) 0 2) (u.alloc (.cells #[.nilIface, .nilIface] 42)) := by kernel_rfl
theorem infoErr : (Tryd.prog.info? 42).map (·.size) = some 1 := by kernel_rfl
/-- A row of errors of the call's own, with room for two. -/
def Row (w : World) (K n : Nat) (xs : List Value) : Prop := w.ownsRow 0 42 1 (.slice (some ⟨K, 0, none⟩) n 2) n xs
theorem Row.new {w : World} {K : Nat} (h : w.heap[K]? = some (.cells #[.nilIface, .nilIface] 42 (0, 0))) : Row w K 0 [] := ⟨by simp, .inr ⟨K, 2, _, rfl, Nat.zero_le _, h, Nat.zero_le _, by simp [maxLen], by simp, by simp⟩⟩
theorem Row.same {w w' : World} {K n : Nat} {xs : List Value} (h : Row w K n xs) (e : w'.heap[K]? = w.heap[K]?) : Row w' K n xs := by
  obtain ⟨h0, h⟩ := h
  rcases h with ⟨h, _⟩ | ⟨g, cap, cur, hv, hb, hg, r⟩
  · cases h
  · refine ⟨h0, .inr ⟨g, cap, cur, hv, hb, ?_, r⟩⟩
    injection hv with hv
    injection hv with hv
    injection hv with hv
    subst hv
    exact e.trans hg
theorem Row.two {w : World} {K : Nat} {x y : Value} (h : Row w K 2 [x, y]) : w.heap[K]? = some (.cells #[x, y] 42 (0, 0)) := by
  obtain ⟨h0, h⟩ := h
  rcases h with ⟨h, _⟩ | ⟨g, cap, cur, hv, hb, hg, hnc, hcm, hcs, ht⟩
  · cases h
  · injection hv with h1 h2 h3
    injection h1 with h1
    injection h1 with h1
    subst h1 h3
    have e : cur.toList = [x, y] := by
      rw [← ht, List.take_of_length_le]
      rw [Array.length_toList, hcs]
      omega
    rw [hg, show cur = #[x, y] from Array.toList_inj.1 (by rw [e])]
theorem wpList_app1 {w : World} {ops : Array Oper} {rest : List Oper} {o : Oper} {a : Act} {Q : Exit → Act → World → Prop} (hgd : o.guard = none) (s x : Operand)
    (ho : o.op = .call { callee := .builtin .append, args := #[s, x], argTypes := #[182, 182] }) (K n E : Nat) (xs : List Value) (v : Value)
    (hs : a.eval s = .slice (some ⟨K, 0, none⟩) n 2) (hx : a.eval x = .slice (some ⟨E, 0, none⟩) 1 1) (hown : Row w K n xs) (hv : w.cell? ⟨E, 0, none⟩ = some v) (h1 : v.oneCell' = true) (hn : n + 1 ≤ 2)
    (h : ∀ w', Hid (Row w' K (n + 1) (xs ++ [v])) → Hid (w.grownBy w' (some K)) → Hid (wpList Tryd.prog ops Q rest (a.put o.dst (.slice (some ⟨K, 0, none⟩) (n + 1) 2)) w')) : wpList Tryd.prog ops Q (o :: rest) a w := by
  obtain ⟨i, hi, hsz⟩ := Option.map_eq_some_iff.1 infoErr
  obtain ⟨w', hrun, h2, h3⟩ := run_append_own_spare (P := Tryd.prog) (w := w) 0 182 o.type 42 i 1 Tryd.underlying182 hi hsz K n 2 xs hown ⟨E, 0, none⟩ 1 1 [v] (by simp) (fun j u hu => by
    match j, hu with
    | 0, hu =>
      simp at hu
      subst hu
      simpa [Addr.add] using hv) (by intro u hu; simp at hu; subst hu; exact h1) hn
  refine wpList_append_at hgd 182 s x ho ?_ (h w' (hide h2) (hide h3)).out
  rw [hs, hx]
  exact hrun
theorem Row.at {w : World} {K n : Nat} {xs : List Value} (h : Row w K n xs) : ∃ o, w.heap[K]? = some o := by
  obtain ⟨h0, h⟩ := h
  rcases h with ⟨h, _⟩ | ⟨g, cap, cur, hv, hb, hg, r⟩
  · cases h
  · injection hv with hv
    injection hv with hv
    injection hv with hv
    subst hv
    exact ⟨_, hg⟩
theorem Row.old {w : World} {K n : Nat} {xs : List Value} (h : Row w K n xs) (o : Obj) : Row (w.alloc o) K n xs := by
  obtain ⟨b, hb⟩ := h.at
  exact h.same ((heap_old hb o).trans hb.symm)
/-- What Join makes of two. -/
def Joined (w : World) (x y : Value) (e : Ending) (w' : World) : Prop := ∃ J K, e = .returned (.iface 183 (.pointer (some ⟨J, 0, none⟩))) ∧ w'.heap[J]? = some (.cells #[.slice (some ⟨K, 0, none⟩) 2 2] 185 (0, 0)) ∧ w'.heap[K]? = some (.cells #[x, y] 42 (0, 0)) ∧ w.heap.size ≤ J ∧ w.heap.size ≤ K ∧ Below w.heap.size w w'
theorem join_c (g : Nat) (t0 t1 : TypeId) (v0 v1 : Value) (T : TypeId) (f : Nat × Nat) (w : World) (hg : w.heap[g]? = some (.cells #[.iface t0 v0, .iface t1 v1] T f)) :
    Calls Tryd.prog 76 #[.slice (some ⟨g, 0, none⟩) 2 2] w (Joined w (.iface t0 v0) (.iface t1 v1)) := by
  have hgl := heap_lt hg
  have c0 := blk_cell (i := 0) hg rfl
  have c1 := blk_cell (i := 1) hg rfl
  have hmk := mk2 w
  have HJ := hide (heap_2b w (.cells #[.nilIface, .nilIface] 42) (.cells #[.slice (some ⟨w.heap.size, 0, none⟩) 0 2] 185))
  have HK := hide (Row.new (heap_2a w (.cells #[.nilIface, .nilIface] 42) (.cells #[.slice (some ⟨w.heap.size, 0, none⟩) 0 2] 185)))
  have HB := hide (((Below.refl _ w).alloc (Nat.le_refl _) (.cells #[.nilIface, .nilIface] 42)).alloc (by simp) (.cells #[.slice (some ⟨w.heap.size, 0, none⟩) 0 2] 185))
  go_enter Tryd.func76, Tryd.ntmps76
  go_wp2
  refine wp_loop_rounds 3 ?_
  rw [rounds_succ]; go_wp2
  rw [rounds_succ]; go_wp2
  rw [rounds_succ]; go_wp2
  generalize ((w.alloc (.cells #[.nilIface, .nilIface] 42)).alloc (.cells #[.slice (some ⟨w.heap.size, 0, none⟩) 0 2] 185)) = w2 at *
  have HC := hide (fun (u : World) (hu : Below w.heap.size w u) => (⟨keepC hu (Nat.le_refl _) (blk_cell (i := 0) hg rfl), keepC hu (Nat.le_refl _) (blk_cell (i := 1) hg rfl)⟩ : u.cell? ⟨g, 0, none⟩ = some (.iface t0 v0) ∧ u.cell? ⟨g, 1, none⟩ = some (.iface t1 v1)))
  clear c0 c1 hmk hg hgl
  have HJw2 := HJ
  have HKw2 := HK
  have HBw2 := HB
  clear HJ HK HB
  refine wp_loop_rounds 3 ?_
  obtain ⟨c0, c1⟩ := HC.out w2 HBw2.out
  have cJ := blk_cell (i := 0) HJw2.out rfl
  have hE := blk_cell (i := 0) (heap_last w2 (.cells #[.iface t0 v0] 42)) rfl
  have HKa := hide (HKw2.out.old (.cells #[.iface t0 v0] 42))
  have HJa := hide (heap_old HJw2.out (.cells #[.iface t0 v0] 42))
  have HBa := hide (HBw2.out.alloc HBw2.out.size (.cells #[.iface t0 v0] 42))
  rw [rounds_succ]
  go_wp2_with (refine wpList_app1 rfl (.tmp 38) (.tmp 40) rfl w.heap.size 0 w2.heap.size [] (.iface t0 v0) rfl rfl HKa.out hE rfl (by omega) ?_)
  intro w3 HKw3 HGw3
  refine of_hid ?_
  have HJw3 := hide (keepG HGw3.out (by omega) HJa.out)
  have HBw3 := hide (belowG HBa.out HGw3.out (Nat.le_refl _) HBa.out.size)
  clear c0 c1 cJ hE HKa HJa HBa HJw2 HKw2 HBw2 HGw3
  have cJ := blk_cell (i := 0) HJw3.out rfl
  have fJ := blk_free (i := 0) HJw3.out
  have HJw4 := hide (blk_set (i := 0) HJw3.out (.slice (some ⟨w.heap.size, 0, none⟩) 1 2))
  have HKw4 := hide (HKw3.out.same (w' := w3.setCell ⟨w.heap.size + 1, 0, none⟩ (.slice (some ⟨w.heap.size, 0, none⟩) 1 2)) (Below.heap_setCell _ _ _ _ (by simp)))
  have HBw4 := hide (HBw3.out.setCell (p := ⟨w.heap.size + 1, 0, none⟩) (by simp) (.slice (some ⟨w.heap.size, 0, none⟩) 1 2))
  simp only [List.setIfInBounds_toArray, List.set_cons_zero, List.nil_append, List.cons_append] at HJw4 HKw4
  go_wp2
  generalize (w3.setCell ⟨w.heap.size + 1, 0, none⟩ (.slice (some ⟨w.heap.size, 0, none⟩) 1 2)) = w4 at *
  clear cJ fJ HJw3 HKw3 HBw3
  obtain ⟨c0, c1⟩ := HC.out w4 HBw4.out
  have cJ := blk_cell (i := 0) HJw4.out rfl
  have hE := blk_cell (i := 0) (heap_last w4 (.cells #[.iface t1 v1] 42)) rfl
  have HKa := hide (HKw4.out.old (.cells #[.iface t1 v1] 42))
  have HJa := hide (heap_old HJw4.out (.cells #[.iface t1 v1] 42))
  have HBa := hide (HBw4.out.alloc HBw4.out.size (.cells #[.iface t1 v1] 42))
  rw [rounds_succ]
  go_wp2_with (refine wpList_app1 rfl (.tmp 38) (.tmp 40) rfl w.heap.size 1 w4.heap.size [.iface t0 v0] (.iface t1 v1) rfl rfl HKa.out hE rfl (by omega) ?_)
  intro w5 HKw5 HGw5
  refine of_hid ?_
  have HJw5 := hide (keepG HGw5.out (by omega) HJa.out)
  have HBw5 := hide (belowG HBa.out HGw5.out (Nat.le_refl _) HBa.out.size)
  clear c0 c1 cJ hE HKa HJa HBa HJw4 HKw4 HBw4 HGw5
  have cJ := blk_cell (i := 0) HJw5.out rfl
  have fJ := blk_free (i := 0) HJw5.out
  have HJw6 := hide (blk_set (i := 0) HJw5.out (.slice (some ⟨w.heap.size, 0, none⟩) 2 2))
  have HKw6 := hide (HKw5.out.same (w' := w5.setCell ⟨w.heap.size + 1, 0, none⟩ (.slice (some ⟨w.heap.size, 0, none⟩) 2 2)) (Below.heap_setCell _ _ _ _ (by simp)))
  have HBw6 := hide (HBw5.out.setCell (p := ⟨w.heap.size + 1, 0, none⟩) (by simp) (.slice (some ⟨w.heap.size, 0, none⟩) 2 2))
  simp only [List.setIfInBounds_toArray, List.set_cons_zero, List.nil_append, List.cons_append] at HJw6 HKw6
  go_wp2
  generalize (w5.setCell ⟨w.heap.size + 1, 0, none⟩ (.slice (some ⟨w.heap.size, 0, none⟩) 2 2)) = w6 at *
  clear cJ fJ HJw5 HKw5 HBw5
  rw [rounds_succ]
  go_wp2
  go_ret
  exact ⟨w.heap.size + 1, w.heap.size, rfl, HJw6.out, HKw6.out.two, by omega, Nat.le_refl _, HBw6.out⟩
end Go.Proofs.YtlhjkacdhfchiaaDoor.Pj
