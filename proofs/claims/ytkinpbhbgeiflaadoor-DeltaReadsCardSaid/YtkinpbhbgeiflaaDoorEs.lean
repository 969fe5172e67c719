/- errors.as, errors.As at an Errno, at a Fault: what they find. -/
import Derived.Test.YtkinpbhbgeiflaaDoorEr
namespace Go.Proofs.YtkinpbhbgeiflaaDoor.Es
set_option linter.unusedVariables false
set_option linter.unusedSimpArgs false
set_option maxRecDepth 100000
open Go.RowKit Go.Extern.Stop Go.Stop Go.Extern
open Go.Proofs.YtkinpbhbgeiflaaDoor.Wu Go.Proofs.YtkinpbhbgeiflaaDoor.Er

/-- The target's Value, in a variable of its own. -/
abbrev vE (a : Addr) : Value := .agg #[.pointer (some ⟨3, 159, none⟩), .pointer (some a), .int .u64 150]
abbrev vF (a : Addr) : Value := .agg #[.pointer (some ⟨3, 160, none⟩), .pointer (some a), .int .u64 150]
abbrev tE : Value := .iface 219 (.agg #[.pointer (some ⟨3, 28, none⟩)])
abbrev tF : Value := .iface 219 (.agg #[.pointer (some ⟨3, 99, none⟩)])
abbrev oE (a : Addr) : Obj := .cells #[.pointer (some ⟨3, 159, none⟩), .pointer (some a), .int .u64 150] 196
abbrev oF (a : Addr) : Obj := .cells #[.pointer (some ⟨3, 160, none⟩), .pointer (some a), .int .u64 150] 196

set_option maxHeartbeats 4000000 in
theorem in_EE (n : Int) (t a : Addr) (x old : Value) (w : World) (ha : w.cell? a = some (.pointer (some t))) (ht : w.cell? t = some old) (hf : w.frozen? t = false) :
    Calls Tryd.prog 114 #[.iface 28 (.int .i64 n), x, vE a, tE] w fun ev w' => ev = .returned (.bool true) ∧ w' = ((w.alloc (oE a)).alloc (.cells #[.int .i64 n] 28)).setCell t (.int .i64 n) := by
  have hal := cell_lt ha
  have htl := cell_lt ht
  have x1 := xTypeOf
  have x2 := xAssg
  have x3 := xVElem
  have x4 := xValueOf
  have x5 := xSet
  have y1 := typeOfE
  have y2 := methodAssignableTo
  have y3 := asgEE
  have y4 := valueOfErrno
  have y5 := elemVE a t (w.alloc (oE a)) (by rw [World.cell?_alloc_lt _ _ a hal]; exact ha)
  have y6 := setE t ⟨w.heap.size + 1, 0, none⟩ n old ((w.alloc (oE a)).alloc (.cells #[.int .i64 n] 28))
    (by rw [World.cell?_alloc_at _ _ _ _ (by simp)]; rfl)
    (by rw [World.cell?_alloc_lt _ _ t (by simp; omega), World.cell?_alloc_lt _ _ t htl]; exact ht)
    (by rw [World.frozen?_alloc_old _ _ t (by simp; omega), World.frozen?_alloc_old _ _ t (Nat.ne_of_lt htl)]; exact hf)
  clear ha ht hf
  go_enter Tryd.func114, Tryd.ntmps114
  go_wp2
  refine wp_loop_rounds 1 ?_
  rw [rounds_succ]
  go_wp2
  go_ret
  exact ⟨rfl, rfl⟩
set_option maxHeartbeats 4000000 in
theorem in_FF (e t a : Addr) (x old : Value) (w : World) (ha : w.cell? a = some (.pointer (some t))) (ht : w.cell? t = some old) (hf : w.frozen? t = false) :
    Calls Tryd.prog 114 #[.iface 99 (.pointer (some e)), x, vF a, tF] w fun ev w' => ev = .returned (.bool true) ∧ w' = ((w.alloc (oF a)).alloc (.cells #[.pointer (some e)] 99)).setCell t (.pointer (some e)) := by
  have hal := cell_lt ha
  have htl := cell_lt ht
  have x1 := xTypeOf
  have x2 := xAssg
  have x3 := xVElem
  have x4 := xValueOf
  have x5 := xSet
  have y1 := typeOfF
  have y2 := methodAssignableTo
  have y3 := asgFF
  have y4 := valueOfFault
  have y5 := elemVF a t (w.alloc (oF a)) (by rw [World.cell?_alloc_lt _ _ a hal]; exact ha)
  have y6 := setF t ⟨w.heap.size + 1, 0, none⟩ e old ((w.alloc (oF a)).alloc (.cells #[.pointer (some e)] 99))
    (by rw [World.cell?_alloc_at _ _ _ _ (by simp)]; rfl)
    (by rw [World.cell?_alloc_lt _ _ t (by simp; omega), World.cell?_alloc_lt _ _ t htl]; exact ht)
    (by rw [World.frozen?_alloc_old _ _ t (by simp; omega), World.frozen?_alloc_old _ _ t (Nat.ne_of_lt htl)]; exact hf)
  clear ha ht hf
  go_enter Tryd.func114, Tryd.ntmps114
  go_wp2
  refine wp_loop_rounds 1 ?_
  rw [rounds_succ]
  go_wp2
  go_ret
  exact ⟨rfl, rfl⟩
set_option maxHeartbeats 4000000 in
theorem in_EF (n : Int) (a : Addr) (x : Value) (w : World) :
    Calls Tryd.prog 114 #[.iface 28 (.int .i64 n), x, vF a, tF] w fun ev w' => ev = .returned (.bool false) ∧ w' = w.alloc (oF a) := by
  have x1 := xTypeOf
  have x2 := xAssg
  have y1 := typeOfE
  have y2 := methodAssignableTo
  have y3 := asgEF
  have y4 := noAsE
  have y5 := noUnwrapE
  have y6 := noUnwrapsE
  go_enter Tryd.func114, Tryd.ntmps114
  go_wp2
  refine wp_loop_rounds 1 ?_
  rw [rounds_succ]
  go_wp2
  go_ret
  exact ⟨rfl, rfl⟩
theorem unwrap_c (b : Nat) (at_ n : Int) (T : TypeId) (f : Nat × Nat) (w : World) (h : w.heap[b]? = some (.cells #[.int .i64 at_, .int .i64 n] T f)) :
    Calls Tryd.prog 165 #[.pointer (some ⟨b, 0, none⟩)] w fun e w' => e = .returned (.iface 28 (.int .i64 n)) ∧ w' = w := by
  have c1 : w.cell? ⟨b, 1, none⟩ = some (.int .i64 n) := blk_cell h rfl
  clear h
  go_enter Tryd.func165, Tryd.ntmps165
  go_wp2
  go_ret
  exact ⟨rfl, rfl⟩
set_option maxHeartbeats 4000000 in
theorem in_FE (b : Nat) (at_ n : Int) (T : TypeId) (f : Nat × Nat) (t a : Addr) (x old : Value) (w : World) (hb : w.heap[b]? = some (.cells #[.int .i64 at_, .int .i64 n] T f)) (ha : w.cell? a = some (.pointer (some t))) (ht : w.cell? t = some old) (hf : w.frozen? t = false) :
    Calls Tryd.prog 114 #[.iface 99 (.pointer (some ⟨b, 0, none⟩)), x, vE a, tE] w fun ev w' => ev = .returned (.bool true) ∧ w' = ((w.alloc (oE a)).alloc (.cells #[.int .i64 n] 28)).setCell t (.int .i64 n) := by
  have hal := cell_lt ha
  have htl := cell_lt ht
  have HU := hide (unwrap_c b at_ n T f (w.alloc (oE a)) (heap_old hb _))
  have x1 := xTypeOf
  have x2 := xAssg
  have x3 := xVElem
  have x4 := xValueOf
  have x5 := xSet
  have y0 := typeOfF
  have y1 := typeOfE
  have y2 := methodAssignableTo
  have y3 := asgEE
  have z3 := asgFE
  have z4 := noAsF
  have z5 := hasUnwrapF
  have z6 := methodUnwrap
  have y4 := valueOfErrno
  have y5 := elemVE a t (w.alloc (oE a)) (by rw [World.cell?_alloc_lt _ _ a hal]; exact ha)
  have y6 := setE t ⟨w.heap.size + 1, 0, none⟩ n old ((w.alloc (oE a)).alloc (.cells #[.int .i64 n] 28))
    (by rw [World.cell?_alloc_at _ _ _ _ (by simp)]; rfl)
    (by rw [World.cell?_alloc_lt _ _ t (by simp; omega), World.cell?_alloc_lt _ _ t htl]; exact ht)
    (by rw [World.frozen?_alloc_old _ _ t (by simp; omega), World.frozen?_alloc_old _ _ t (Nat.ne_of_lt htl)]; exact hf)
  clear ha ht hf hb
  go_enter Tryd.func114, Tryd.ntmps114
  go_wp2
  refine wp_loop_rounds 2 ?_
  rw [rounds_succ]
  go_wp2_with fail
  refine HU.out.mono ?_
  rintro e w' ⟨rfl, rfl⟩
  go_wp2
  rw [rounds_succ]
  go_wp2
  go_ret
  exact ⟨rfl, rfl⟩
end Go.Proofs.YtkinpbhbgeiflaaDoor.Es
