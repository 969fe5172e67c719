/- errors.As, the program's 'found', Number and Place at the errors that the program makes. -/
import Derived.Test.YtkinpbhbgeiflaaDoorEs
import Derived.Defers
import Derived.Recover
namespace Go.Proofs.YtkinpbhbgeiflaaDoor.Et
set_option linter.unusedVariables false
set_option linter.unusedSimpArgs false
set_option maxRecDepth 100000
open Go.RowKit Go.Extern.Stop Go.Stop Go.Extern
open Go.Proofs.YtkinpbhbgeiflaaDoor.Wu Go.Proofs.YtkinpbhbgeiflaaDoor.Er Go.Proofs.YtkinpbhbgeiflaaDoor.Es

/-- What errors.As leaves: the target set to v. -/
def Hit (w : World) (t : Addr) (v : Value) (e : Ending) (w' : World) : Prop := e = .returned (.bool true) ∧ ∃ w1, Below w.heap.size w w1 ∧ w' = w1.setCell t v
def Miss (w : World) (e : Ending) (w' : World) : Prop := e = .returned (.bool false) ∧ Below w.heap.size w w'
theorem as_nil (t : Value) (w : World) : Calls Tryd.prog 85 #[.nilIface, t] w (Miss w) := by
  go_enter Tryd.func85, Tryd.ntmps85
  go_wp2
  go_ret
  exact ⟨rfl, Below.refl _ _⟩
set_option maxHeartbeats 4000000 in
theorem as_EE (n : Int) (t : Addr) (old : Value) (w : World) (he : Et w) (ht : w.cell? t = some old) (hf : w.frozen? t = false) :
    Calls Tryd.prog 85 #[.iface 28 (.int .i64 n), .iface 159 (.pointer (some t))] w (Hit w t (.int .i64 n)) := by
  have htl := cell_lt ht
  have hel : 0 < w.heap.size := cell_lt he
  have x1 := xValueOf
  have x2 := xType
  have x3 := xKind
  have x4 := xIsNil
  have x5 := xElem
  have x6 := xImpl
  have y1 := valueOfE t
  have y2 := typeE
  have y3 := methodKind
  have y4 := kindPE
  have y5 := isNilE ⟨w.heap.size, 0, none⟩ t ((w.alloc (.cells #[.pointer (some t)] 159)).alloc (oE ⟨w.heap.size, 0, none⟩)) (by simp)
  have y6 := methodElem
  have y7 := elemE
  have y8 := kindE
  have y9 := methodImplements
  have y10 := implE
  have hg2 : ((w.alloc (.cells #[.pointer (some t)] 159)).alloc (oE ⟨w.heap.size, 0, none⟩)).cell? ⟨0, 0, none⟩ = some (.iface 219 (.agg #[.pointer (some ⟨3, 42, none⟩)])) := by
    rw [World.cell?_alloc_lt _ _ ⟨0, 0, none⟩ (by simp <;> omega), World.cell?_alloc_lt _ _ ⟨0, 0, none⟩ hel]; exact he
  have HI := hide (in_EE n t ⟨w.heap.size, 0, none⟩ (.iface 159 (.pointer (some t))) old ((w.alloc (.cells #[.pointer (some t)] 159)).alloc (oE ⟨w.heap.size, 0, none⟩)) (by simp)
    (by rw [World.cell?_alloc_lt _ _ t (by simp; omega), World.cell?_alloc_lt _ _ t htl]; exact ht) (by rw [World.frozen?_alloc_old _ _ t (by simp; omega), World.frozen?_alloc_old _ _ t (Nat.ne_of_lt htl)]; exact hf))
  clear ht hf he
  go_enter Tryd.func85, Tryd.ntmps85
  go_wp2_with fail
  refine HI.out.mono ?_
  rintro e w' ⟨rfl, rfl⟩
  go_wp2
  go_ret
  exact ⟨rfl, _, ((((Below.refl _ w).alloc (Nat.le_refl _) _).alloc (by simp) _).alloc (by simp; omega) _).alloc (by simp; omega) _, rfl⟩
set_option maxHeartbeats 4000000 in
theorem as_FE (b : Nat) (at_ n : Int) (T : TypeId) (f : Nat × Nat) (t : Addr) (old : Value) (w : World) (hb : w.heap[b]? = some (.cells #[.int .i64 at_, .int .i64 n] T f)) (he : Et w) (ht : w.cell? t = some old) (hf : w.frozen? t = false) :
    Calls Tryd.prog 85 #[.iface 99 (.pointer (some ⟨b, 0, none⟩)), .iface 159 (.pointer (some t))] w (Hit w t (.int .i64 n)) := by
  have htl := cell_lt ht
  have hel : 0 < w.heap.size := cell_lt he
  have x1 := xValueOf
  have x2 := xType
  have x3 := xKind
  have x4 := xIsNil
  have x5 := xElem
  have x6 := xImpl
  have y1 := valueOfE t
  have y2 := typeE
  have y3 := methodKind
  have y4 := kindPE
  have y5 := isNilE ⟨w.heap.size, 0, none⟩ t ((w.alloc (.cells #[.pointer (some t)] 159)).alloc (oE ⟨w.heap.size, 0, none⟩)) (by simp)
  have y6 := methodElem
  have y7 := elemE
  have y8 := kindE
  have y9 := methodImplements
  have y10 := implE
  have hg2 : ((w.alloc (.cells #[.pointer (some t)] 159)).alloc (oE ⟨w.heap.size, 0, none⟩)).cell? ⟨0, 0, none⟩ = some (.iface 219 (.agg #[.pointer (some ⟨3, 42, none⟩)])) := by
    rw [World.cell?_alloc_lt _ _ ⟨0, 0, none⟩ (by simp <;> omega), World.cell?_alloc_lt _ _ ⟨0, 0, none⟩ hel]; exact he
  have HI := hide (in_FE b at_ n T f t ⟨w.heap.size, 0, none⟩ (.iface 159 (.pointer (some t))) old ((w.alloc (.cells #[.pointer (some t)] 159)).alloc (oE ⟨w.heap.size, 0, none⟩)) (heap_old (heap_old hb _) _) (by simp)
    (by rw [World.cell?_alloc_lt _ _ t (by simp; omega), World.cell?_alloc_lt _ _ t htl]; exact ht) (by rw [World.frozen?_alloc_old _ _ t (by simp; omega), World.frozen?_alloc_old _ _ t (Nat.ne_of_lt htl)]; exact hf))
  clear ht hf he hb
  go_enter Tryd.func85, Tryd.ntmps85
  go_wp2_with fail
  refine HI.out.mono ?_
  rintro e w' ⟨rfl, rfl⟩
  go_wp2
  go_ret
  exact ⟨rfl, _, ((((Below.refl _ w).alloc (Nat.le_refl _) _).alloc (by simp) _).alloc (by simp; omega) _).alloc (by simp; omega) _, rfl⟩
set_option maxHeartbeats 4000000 in
theorem as_FF (p t : Addr) (old : Value) (w : World) (he : Et w) (ht : w.cell? t = some old) (hf : w.frozen? t = false) :
    Calls Tryd.prog 85 #[.iface 99 (.pointer (some p)), .iface 160 (.pointer (some t))] w (Hit w t (.pointer (some p))) := by
  have htl := cell_lt ht
  have hel : 0 < w.heap.size := cell_lt he
  have x1 := xValueOf
  have x2 := xType
  have x3 := xKind
  have x4 := xIsNil
  have x5 := xElem
  have x6 := xImpl
  have y1 := valueOfF t
  have y2 := typeF
  have y3 := methodKind
  have y4 := kindPF
  have y5 := isNilF ⟨w.heap.size, 0, none⟩ t ((w.alloc (.cells #[.pointer (some t)] 160)).alloc (oF ⟨w.heap.size, 0, none⟩)) (by simp)
  have y6 := methodElem
  have y7 := elemF
  have y8 := kindF
  have y9 := methodImplements
  have y10 := implF
  have hg2 : ((w.alloc (.cells #[.pointer (some t)] 160)).alloc (oF ⟨w.heap.size, 0, none⟩)).cell? ⟨0, 0, none⟩ = some (.iface 219 (.agg #[.pointer (some ⟨3, 42, none⟩)])) := by
    rw [World.cell?_alloc_lt _ _ ⟨0, 0, none⟩ (by simp <;> omega), World.cell?_alloc_lt _ _ ⟨0, 0, none⟩ hel]; exact he
  have HI := hide (in_FF p t ⟨w.heap.size, 0, none⟩ (.iface 160 (.pointer (some t))) old ((w.alloc (.cells #[.pointer (some t)] 160)).alloc (oF ⟨w.heap.size, 0, none⟩)) (by simp)
    (by rw [World.cell?_alloc_lt _ _ t (by simp; omega), World.cell?_alloc_lt _ _ t htl]; exact ht) (by rw [World.frozen?_alloc_old _ _ t (by simp; omega), World.frozen?_alloc_old _ _ t (Nat.ne_of_lt htl)]; exact hf))
  clear ht hf he
  go_enter Tryd.func85, Tryd.ntmps85
  go_wp2_with fail
  refine HI.out.mono ?_
  rintro e w' ⟨rfl, rfl⟩
  go_wp2
  go_ret
  exact ⟨rfl, _, ((((Below.refl _ w).alloc (Nat.le_refl _) _).alloc (by simp) _).alloc (by simp; omega) _).alloc (by simp; omega) _, rfl⟩
set_option maxHeartbeats 4000000 in
theorem as_EF (n : Int) (t : Addr) (w : World) (he : Et w) :
    Calls Tryd.prog 85 #[.iface 28 (.int .i64 n), .iface 160 (.pointer (some t))] w (Miss w) := by
  have hel : 0 < w.heap.size := cell_lt he
  have x1 := xValueOf
  have x2 := xType
  have x3 := xKind
  have x4 := xIsNil
  have x5 := xElem
  have x6 := xImpl
  have y1 := valueOfF t
  have y2 := typeF
  have y3 := methodKind
  have y4 := kindPF
  have y5 := isNilF ⟨w.heap.size, 0, none⟩ t ((w.alloc (.cells #[.pointer (some t)] 160)).alloc (oF ⟨w.heap.size, 0, none⟩)) (by simp)
  have y6 := methodElem
  have y7 := elemF
  have y8 := kindF
  have y9 := methodImplements
  have y10 := implF
  have hg2 : ((w.alloc (.cells #[.pointer (some t)] 160)).alloc (oF ⟨w.heap.size, 0, none⟩)).cell? ⟨0, 0, none⟩ = some (.iface 219 (.agg #[.pointer (some ⟨3, 42, none⟩)])) := by
    rw [World.cell?_alloc_lt _ _ ⟨0, 0, none⟩ (by simp <;> omega), World.cell?_alloc_lt _ _ ⟨0, 0, none⟩ hel]; exact he
  have HI := hide (in_EF n ⟨w.heap.size, 0, none⟩ (.iface 160 (.pointer (some t))) ((w.alloc (.cells #[.pointer (some t)] 160)).alloc (oF ⟨w.heap.size, 0, none⟩)))
  clear he
  go_enter Tryd.func85, Tryd.ntmps85
  go_wp2_with fail
  refine HI.out.mono ?_
  rintro e w' ⟨rfl, rfl⟩
  go_wp2
  go_ret
  exact ⟨rfl, (((Below.refl _ w).alloc (Nat.le_refl _) _).alloc (by simp) _).alloc (by simp; omega) _⟩
end Go.Proofs.YtkinpbhbgeiflaaDoor.Et
