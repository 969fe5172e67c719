/- errors.Is at a Fault and at an Errno, the target an Errno. -/
import Derived.Test.YtifepgigkmhdaaaDoorEu
namespace Go.Proofs.YtifepgigkmhdaaaDoor.Ei
set_option linter.unusedVariables false
set_option linter.unusedSimpArgs false
set_option maxRecDepth 100000
open Go.RowKit Go.Extern.Stop Go.Stop Go.Extern
open Go.Proofs.YtifepgigkmhdaaaDoor.Wu Go.Proofs.YtifepgigkmhdaaaDoor.Er Go.Proofs.YtifepgigkmhdaaaDoor.Es Go.Proofs.YtifepgigkmhdaaaDoor.Et Go.Proofs.YtifepgigkmhdaaaDoor.Eu
theorem comparableE (w : World) : (callFunc 194 #[.agg #[.pointer (some ⟨6, 28, none⟩)]]).run Tryd.prog w = .ok (.value (.bool true)) w := by kernel_rfl
theorem methodComparable (v : Value) (w : World) : (Go.method 387 218 v "Comparable").run Tryd.prog w = .ok (194, v) w := by kernel_rfl
theorem noIsE (v : Value) (xT : TypeId) (w : World) : (Instr.typeAssert (.iface 28 v) xT 220 true).run Tryd.prog w = .ok (.tuple #[.nilIface, .bool false]) w := run_typeAssert_lacksB Tryd.underlying220 (by kernel_rfl) (by kernel_rfl) v xT w
theorem noIsF (v : Value) (xT : TypeId) (w : World) : (Instr.typeAssert (.iface 124 v) xT 220 true).run Tryd.prog w = .ok (.tuple #[.nilIface, .bool false]) w := run_typeAssert_lacksB Tryd.underlying220 (by kernel_rfl) (by kernel_rfl) v xT w
theorem compE : (Tryd.prog.info? 28).map (·.comparable) = some true := by kernel_rfl
theorem run_equalIn_iface_int {P : Program} (w : World) (d : Nat) {ti tn : TypeId} {ms : Array (String × TypeId)} {i : TypeInfo} {k : IntKind} (a b : Int)
    (hi : P.underlying ti = some (.interface ms)) (hn : P.underlying tn = some (.int k)) (hinfo : P.info? tn = some i) (hcomp : i.comparable = true) :
    (Op.equalIn (d + 2) ti (.iface tn (.int k a)) (.iface tn (.int k b))).run P w = .ok (a == b) w := by
  simp [Op.equalIn, run_underlying hi, run_underlying hn, typeInfo, hinfo, hcomp]
theorem run_eql_iface_int {P : Program} (w : World) {ti tn : TypeId} {ms : Array (String × TypeId)} {i : TypeInfo} {k : IntKind} (a b : Int)
    (hi : P.underlying ti = some (.interface ms)) (hn : P.underlying tn = some (.int k)) (hinfo : P.info? tn = some i) (hcomp : i.comparable = true) :
    (binOp .eql ti (.iface tn (.int k a)) (.iface tn (.int k b))).run P w = .ok (.bool (a == b)) w := by
  simp only [binOp]
  simp [Op.equal, Op.maxDepth, run_equalIn_iface_int w 9998 a b hi hn hinfo hcomp]
theorem eqlEE (a b : Int) (w : World) : (binOp .eql 42 (.iface 28 (.int .i64 a)) (.iface 28 (.int .i64 b))).run Tryd.prog w = .ok (.bool (a == b)) w := by
  obtain ⟨i, hi, hcmp⟩ := Option.map_eq_some_iff.1 compE
  exact run_eql_iface_int w a b Tryd.underlying42 Tryd.underlying28 hi hcmp
theorem eqlFE (x y : Value) (w : World) : (binOp .eql 42 (.iface 124 x) (.iface 28 y)).run Tryd.prog w = .ok (.bool false) w := run_eql_iface_types 124 28 x y Tryd.underlying42 (by decide) w
set_option maxHeartbeats 4000000 in
theorem is_FE (b : Nat) (at_ m n : Int) (ok : Bool) (hc : (m == n) = ok) (T : TypeId) (f : Nat × Nat) (w : World) (h : w.heap[b]? = some (.cells #[.int .i64 at_, .int .i64 m] T f)) :
    Calls Tryd.prog 67 #[.iface 124 (.pointer (some ⟨b, 0, none⟩)), .iface 28 (.int .i64 n)] w fun e w' => e = .returned (.bool ok) ∧ w' = w := by
  have y10 : ∀ u : World, (binOp .eql 42 (.iface 28 (.int .i64 m)) (.iface 28 (.int .i64 n))).run Tryd.prog u = .ok (.bool ok) u := fun u => by rw [eqlEE, hc]
  clear hc
  have HU := hide (unwrap_c b at_ m T f w h)
  have x1 := xTypeOf
  have y1 := typeOfE
  have y2 := comparableE
  have y3 := methodComparable
  have y4 := noIsE
  have y5 := noIsF
  have y6 := noUnwrapE
  have y7 := noUnwrapsE
  have y8 := hasUnwrapF
  have y9 := methodUnwrap
  have y11 := eqlFE
  clear h
  cases ok
  all_goals
    go_enter Tryd.func67, Tryd.ntmps67
    go_wp2
    refine wp_loop_rounds 2 ?_
    rw [rounds_succ]
    go_wp2_with fail
    refine HU.out.mono ?_
    rintro e w' ⟨rfl, rfl⟩
    go_wp2
    rw [rounds_succ]
    go_wp2
    go_ret
    exact ⟨rfl, rfl⟩
end Go.Proofs.YtifepgigkmhdaaaDoor.Ei
