/- errors.As at an error of two: what it finds in the first. -/
import Derived.Test.YtlhjkacdhfchiaaDoorEu
import Derived.Test.YtlhjkacdhfchiaaDoorPx
namespace Go.Proofs.YtlhjkacdhfchiaaDoor.Pk
set_option linter.unusedVariables false
set_option linter.unusedSimpArgs false
set_option maxRecDepth 100000
open Go.RowKit Go.Extern.Stop Go.Stop Go.Extern
open Go.Proofs.YtlhjkacdhfchiaaDoor.Wu Go.Proofs.YtlhjkacdhfchiaaDoor.Er Go.Proofs.YtlhjkacdhfchiaaDoor.Es Go.Proofs.YtlhjkacdhfchiaaDoor.Et Go.Proofs.YtlhjkacdhfchiaaDoor.Eu Go.Proofs.YtlhjkacdhfchiaaDoor.Px
theorem typeOfJ (v : Value) (w : World) : (ReflectliteType.typeOf #[.iface 183 v]).run Tryd.prog w = .ok (.iface 200 (.agg #[.pointer (some ⟨4, 183, none⟩)])) w := by kernel_rfl
theorem asgJE (w : World) : (ReflectliteType.relation "AssignableTo" ReflectliteType.assignableTo #[.agg #[.pointer (some ⟨4, 183, none⟩)], .iface 200 (.agg #[.pointer (some ⟨4, 28, none⟩)])]).run Tryd.prog w = .ok (.bool false) w := by kernel_rfl
theorem asgJF (w : World) : (ReflectliteType.relation "AssignableTo" ReflectliteType.assignableTo #[.agg #[.pointer (some ⟨4, 183, none⟩)], .iface 200 (.agg #[.pointer (some ⟨4, 96, none⟩)])]).run Tryd.prog w = .ok (.bool false) w := by kernel_rfl
theorem noAsJ (v : Value) (xT : TypeId) (w : World) : (Instr.typeAssert (.iface 183 v) xT 210 true).run Tryd.prog w = .ok (.tuple #[.nilIface, .bool false]) w := run_typeAssert_lacksB Tryd.underlying210 (by kernel_rfl) (by kernel_rfl) v xT w
theorem noUnwrapJ (v : Value) (xT : TypeId) (w : World) : (Instr.typeAssert (.iface 183 v) xT 205 true).run Tryd.prog w = .ok (.tuple #[.nilIface, .bool false]) w := run_typeAssert_lacksB Tryd.underlying205 (by kernel_rfl) (by kernel_rfl) v xT w
theorem hasUnwrapsJ (v : Value) (xT : TypeId) (w : World) : (Instr.typeAssert (.iface 183 v) xT 206 true).run Tryd.prog w = .ok (.tuple #[.iface 183 v, .bool true]) w := run_typeAssert_hasB Tryd.underlying206 (by kernel_rfl) v xT w
theorem methodUnwrapJ (v : Value) (w : World) : (Go.method 366 183 v "Unwrap").run Tryd.prog w = .ok (177, v) w := by kernel_rfl
theorem unwrapJ_c (J K : Nat) (T : TypeId) (w : World) (h : w.heap[J]? = some (.cells #[.slice (some ⟨K, 0, none⟩) 2 2] T (0, 0))) :
    Calls Tryd.prog 177 #[.pointer (some ⟨J, 0, none⟩)] w fun e w' => e = .returned (.slice (some ⟨K, 0, none⟩) 2 2) ∧ w' = w := by
  have c1 : w.cell? ⟨J, 0, none⟩ = some (.slice (some ⟨K, 0, none⟩) 2 2) := blk_cell h rfl
  clear h
  go_enter Tryd.func177, Tryd.ntmps177
  go_wp2
  go_ret
  exact ⟨rfl, rfl⟩
set_option maxHeartbeats 4000000 in
theorem in_JE (J K b : Nat) (i : Int) (y : Value) (t a : Addr) (x old : Value) (w : World) (hJ : w.heap[J]? = some (.cells #[.slice (some ⟨K, 0, none⟩) 2 2] 185 (0, 0))) (hK : w.heap[K]? = some (.cells #[.iface 96 (.pointer (some ⟨b, 0, none⟩)), y] 42 (0, 0)))
    (hb : w.heap[b]? = some (.cells #[.int .i64 i, .int .i64 90] 30 (0, 0))) (ha : w.cell? a = some (.pointer (some t))) (ht : w.cell? t = some old) (hf : w.frozen? t = false) :
    Calls Tryd.prog 102 #[.iface 183 (.pointer (some ⟨J, 0, none⟩)), x, vE a, tE] w fun ev w' => ev = .returned (.bool true) ∧ w' = (((w.alloc (oE a)).alloc (oE a)).alloc (.cells #[.int .i64 90] 28)).setCell t (.int .i64 90) := by
  have hal := cell_lt ha
  have htl := cell_lt ht
  have HU := hide (unwrapJ_c J K _ (w.alloc (oE a)) (heap_old hJ _))
  have cK : (w.alloc (oE a)).cell? ⟨K, 0, none⟩ = some (.iface 96 (.pointer (some ⟨b, 0, none⟩))) := blk_cell (heap_old hK _) rfl
  have HI := hide (in_FE b i 90 _ _ t a x old (w.alloc (oE a)) (heap_old hb _) (by rw [World.cell?_alloc_lt _ _ a hal]; exact ha) (by rw [World.cell?_alloc_lt _ _ t htl]; exact ht) (by rw [World.frozen?_alloc_old _ _ t (Nat.ne_of_lt htl)]; exact hf))
  have x1 := xTypeOf
  have x2 := xAssg
  have y0 := typeOfJ
  have y2 := methodAssignableTo
  have z3 := asgJE
  have z4 := noAsJ
  have z5 := noUnwrapJ
  have z6 := hasUnwrapsJ
  have z7 := methodUnwrapJ
  clear ha ht hf hb hJ hK
  go_enter Tryd.func102, Tryd.ntmps102
  go_wp2
  refine wp_loop_rounds 1 ?_
  rw [rounds_succ]
  go_wp2_with fail
  refine HU.out.mono ?_
  rintro e w' ⟨rfl, rfl⟩
  go_wp2_with fail
  refine wp_loop_rounds 1 ?_
  rw [rounds_succ]
  go_wp2_with fail
  refine HI.out.mono ?_
  rintro e w' ⟨rfl, rfl⟩
  go_wp2
  go_ret
  exact ⟨rfl, rfl⟩
set_option maxHeartbeats 4000000 in
theorem in_JF (J K b : Nat) (y : Value) (t a : Addr) (x old : Value) (w : World) (hJ : w.heap[J]? = some (.cells #[.slice (some ⟨K, 0, none⟩) 2 2] 185 (0, 0))) (hK : w.heap[K]? = some (.cells #[.iface 96 (.pointer (some ⟨b, 0, none⟩)), y] 42 (0, 0)))
    (ha : w.cell? a = some (.pointer (some t))) (ht : w.cell? t = some old) (hf : w.frozen? t = false) :
    Calls Tryd.prog 102 #[.iface 183 (.pointer (some ⟨J, 0, none⟩)), x, vF a, tF] w fun ev w' => ev = .returned (.bool true) ∧ w' = (((w.alloc (oF a)).alloc (oF a)).alloc (.cells #[.pointer (some ⟨b, 0, none⟩)] 96)).setCell t (.pointer (some ⟨b, 0, none⟩)) := by
  have hal := cell_lt ha
  have htl := cell_lt ht
  have HU := hide (unwrapJ_c J K _ (w.alloc (oF a)) (heap_old hJ _))
  have cK : (w.alloc (oF a)).cell? ⟨K, 0, none⟩ = some (.iface 96 (.pointer (some ⟨b, 0, none⟩))) := blk_cell (heap_old hK _) rfl
  have HI := hide (in_FF ⟨b, 0, none⟩ t a x old (w.alloc (oF a)) (by rw [World.cell?_alloc_lt _ _ a hal]; exact ha) (by rw [World.cell?_alloc_lt _ _ t htl]; exact ht) (by rw [World.frozen?_alloc_old _ _ t (Nat.ne_of_lt htl)]; exact hf))
  have x1 := xTypeOf
  have x2 := xAssg
  have y0 := typeOfJ
  have y2 := methodAssignableTo
  have z3 := asgJF
  have z4 := noAsJ
  have z5 := noUnwrapJ
  have z6 := hasUnwrapsJ
  have z7 := methodUnwrapJ
  clear ha ht hf hJ hK
  go_enter Tryd.func102, Tryd.ntmps102
  go_wp2
  refine wp_loop_rounds 1 ?_
  rw [rounds_succ]
  go_wp2_with fail
  refine HU.out.mono ?_
  rintro e w' ⟨rfl, rfl⟩
  go_wp2_with fail
  refine wp_loop_rounds 1 ?_
  rw [rounds_succ]
  go_wp2_with fail
  refine HI.out.mono ?_
  rintro e w' ⟨rfl, rfl⟩
  go_wp2
  go_ret
  exact ⟨rfl, rfl⟩
set_option maxHeartbeats 4000000 in
theorem as_JE (J K b : Nat) (i : Int) (y : Value) (t : Addr) (old : Value) (w : World) (hJ : w.heap[J]? = some (.cells #[.slice (some ⟨K, 0, none⟩) 2 2] 185 (0, 0))) (hK : w.heap[K]? = some (.cells #[.iface 96 (.pointer (some ⟨b, 0, none⟩)), y] 42 (0, 0)))
    (hb : w.heap[b]? = some (.cells #[.int .i64 i, .int .i64 90] 30 (0, 0))) (he : Et w) (ht : w.cell? t = some old) (hf : w.frozen? t = false) :
    Calls Tryd.prog 70 #[.iface 183 (.pointer (some ⟨J, 0, none⟩)), .iface 138 (.pointer (some t))] w (Hit w t (.int .i64 90)) := by
  have htl := cell_lt ht
  have hel : 0 < w.heap.size := cell_lt he
  have x1 := xValueOf
  have x2 := xType
  have x3 := xKind
  have x4 := xIsNil
  have x5 := xElem
  have x6 := xImpl
  have y1 := valueOfE t
  have y2 := typeE
  have y3 := methodKind
  have y4 := kindPE
  have y5 := isNilE ⟨w.heap.size, 0, none⟩ t ((w.alloc (.cells #[.pointer (some t)] 138)).alloc (oE ⟨w.heap.size, 0, none⟩)) (by simp)
  have y6 := methodElem
  have y7 := elemE
  have y8 := kindE
  have y9 := methodImplements
  have y10 := implE
  have hg2 : ((w.alloc (.cells #[.pointer (some t)] 138)).alloc (oE ⟨w.heap.size, 0, none⟩)).cell? ⟨0, 0, none⟩ = some (.iface 200 (.agg #[.pointer (some ⟨4, 42, none⟩)])) := by
    rw [World.cell?_alloc_lt _ _ ⟨0, 0, none⟩ (by simp <;> omega), World.cell?_alloc_lt _ _ ⟨0, 0, none⟩ hel]; exact he
  have HI := hide (in_JE J K b i y t ⟨w.heap.size, 0, none⟩ (.iface 138 (.pointer (some t))) old ((w.alloc (.cells #[.pointer (some t)] 138)).alloc (oE ⟨w.heap.size, 0, none⟩)) (heap_old (heap_old hJ _) _) (heap_old (heap_old hK _) _) (heap_old (heap_old hb _) _) (by simp)
    (by rw [World.cell?_alloc_lt _ _ t (by simp; omega), World.cell?_alloc_lt _ _ t htl]; exact ht) (by rw [World.frozen?_alloc_old _ _ t (by simp; omega), World.frozen?_alloc_old _ _ t (Nat.ne_of_lt htl)]; exact hf))
  clear ht hf he hb hJ hK
  go_enter Tryd.func70, Tryd.ntmps70
  go_wp2_with fail
  refine HI.out.mono ?_
  rintro e w' ⟨rfl, rfl⟩
  go_wp2
  go_ret
  exact ⟨rfl, _, (((((Below.refl _ w).alloc (Nat.le_refl _) _).alloc (by simp) _).alloc (by simp; omega) _).alloc (by simp; omega) _).alloc (by simp; omega) _, rfl⟩
set_option maxHeartbeats 4000000 in
theorem as_JF (J K b : Nat) (y : Value) (t : Addr) (old : Value) (w : World) (hJ : w.heap[J]? = some (.cells #[.slice (some ⟨K, 0, none⟩) 2 2] 185 (0, 0))) (hK : w.heap[K]? = some (.cells #[.iface 96 (.pointer (some ⟨b, 0, none⟩)), y] 42 (0, 0)))
    (he : Et w) (ht : w.cell? t = some old) (hf : w.frozen? t = false) :
    Calls Tryd.prog 70 #[.iface 183 (.pointer (some ⟨J, 0, none⟩)), .iface 139 (.pointer (some t))] w (Hit w t (.pointer (some ⟨b, 0, none⟩))) := by
  have htl := cell_lt ht
  have hel : 0 < w.heap.size := cell_lt he
  have x1 := xValueOf
  have x2 := xType
  have x3 := xKind
  have x4 := xIsNil
  have x5 := xElem
  have x6 := xImpl
  have y1 := valueOfF t
  have y2 := typeF
  have y3 := methodKind
  have y4 := kindPF
  have y5 := isNilF ⟨w.heap.size, 0, none⟩ t ((w.alloc (.cells #[.pointer (some t)] 139)).alloc (oF ⟨w.heap.size, 0, none⟩)) (by simp)
  have y6 := methodElem
  have y7 := elemF
  have y8 := kindF
  have y9 := methodImplements
  have y10 := implF
  have hg2 : ((w.alloc (.cells #[.pointer (some t)] 139)).alloc (oF ⟨w.heap.size, 0, none⟩)).cell? ⟨0, 0, none⟩ = some (.iface 200 (.agg #[.pointer (some ⟨4, 42, none⟩)])) := by
    rw [World.cell?_alloc_lt _ _ ⟨0, 0, none⟩ (by simp <;> omega), World.cell?_alloc_lt _ _ ⟨0, 0, none⟩ hel]; exact he
  have HI := hide (in_JF J K b y t ⟨w.heap.size, 0, none⟩ (.iface 139 (.pointer (some t))) old ((w.alloc (.cells #[.pointer (some t)] 139)).alloc (oF ⟨w.heap.size, 0, none⟩)) (heap_old (heap_old hJ _) _) (heap_old (heap_old hK _) _) (by simp)
    (by rw [World.cell?_alloc_lt _ _ t (by simp; omega), World.cell?_alloc_lt _ _ t htl]; exact ht) (by rw [World.frozen?_alloc_old _ _ t (by simp; omega), World.frozen?_alloc_old _ _ t (Nat.ne_of_lt htl)]; exact hf))
  clear ht hf he hJ hK
  go_enter Tryd.func70, Tryd.ntmps70
  go_wp2_with fail
  refine HI.out.mono ?_
  rintro e w' ⟨rfl, rfl⟩
  go_wp2
  go_ret
  exact ⟨rfl, _, (((((Below.refl _ w).alloc (Nat.le_refl _) _).alloc (by simp) _).alloc (by simp; omega) _).alloc (by simp; omega) _).alloc (by simp; omega) _, rfl⟩
theorem join_below {w w' : World} {v : Value} {i : Int} (h : IsJoin w v i) (hb : Below w.heap.size w w') : IsJoin w' v i := by
  obtain ⟨J, K, b, y, h1, h2, h3, h4⟩ := h
  exact ⟨J, K, b, y, h1, below_blk hb (heap_lt h2) h2, below_blk hb (heap_lt h3) h3, below_blk hb (heap_lt h4) h4⟩
theorem number_j (v : Value) (i : Int) (w : World) (h : IsJoin w v i) (he : Et w) : Calls Tryd.prog 16 #[v] w (RetB w (.int .i64 90)) := by
  have HF : Hid (Calls Tryd.prog 39 #[v] w (FoundPost w (.int .i64 90) true)) := hide (found_E _ 90 true w (fun h => by cases h) fun t old u hbu ht hf => by
    obtain ⟨J, K, b, y, rfl, h2, h3, h4⟩ := join_below h hbu
    exact (as_JE J K b i y t old u h2 h3 h4 (he.below hbu (Nat.le_refl _)) ht hf).mono fun e u' hm => Hit.as hm)
  clear h he
  go_enter Tryd.func16, Tryd.ntmps16
  go_wp2_with fail
  refine HF.out.mono ?_
  rintro e w' ⟨rfl, hb⟩
  go_wp2
  go_ret
  exact ⟨rfl, hb⟩
theorem place_j (v : Value) (i : Int) (w : World) (h : IsJoin w v i) (he : Et w) : Calls Tryd.prog 17 #[v] w (RetB w (.int .i64 i)) := by
  obtain ⟨J, K, b, y, rfl, h2, h3, h4⟩ := h
  have HB := hide h4
  have HF : Hid (Calls Tryd.prog 40 #[.iface 183 (.pointer (some ⟨J, 0, none⟩))] w (FoundPost w (.pointer (some ⟨b, 0, none⟩)) true)) := hide (found_F _ _ true w (fun h => by cases h) fun t old u hbu ht hf =>
    (as_JF J K b y t old u (below_blk hbu (heap_lt h2) h2) (below_blk hbu (heap_lt h3) h3) (he.below hbu (Nat.le_refl _)) ht hf).mono fun e u' hm => Hit.as hm)
  clear h2 h3 h4 he
  go_enter Tryd.func17, Tryd.ntmps17
  go_wp2_with fail
  refine HF.out.mono ?_
  rintro e w' ⟨rfl, hb⟩
  have c0 : w'.cell? ⟨b, 0, none⟩ = some (.int .i64 i) := blk_cell (below_blk hb (heap_lt HB.out) HB.out) rfl
  go_wp2
  go_ret
  exact ⟨rfl, hb⟩
end Go.Proofs.YtlhjkacdhfchiaaDoor.Pk
