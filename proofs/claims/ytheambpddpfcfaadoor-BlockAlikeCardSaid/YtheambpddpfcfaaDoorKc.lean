/- Block's span; blocks loaded and compared. -/
import Derived.Test.YtheambpddpfcfaaDoorKb
import Derived.Test.YtheambpddpfcfaaDoorSe
import Derived.Test.YtheambpddpfcfaaDoorRk
import Derived.BigQuiet
import Derived.Deep.QuietTactic
namespace Go.Proofs.YtheambpddpfcfaaDoor.Kc
set_option linter.unusedVariables false
set_option linter.unusedSimpArgs false
set_option maxRecDepth 100000
open Go.ChangeShapes Go.WideShapes Go.ChangeAt Go.RowKit
open Go.Proofs.YtheambpddpfcfaaDoor.Wu Go.Proofs.YtheambpddpfcfaaDoor.Sm Go.Proofs.YtheambpddpfcfaaDoor.Sh Go.Proofs.YtheambpddpfcfaaDoor.Ba Go.Proofs.YtheambpddpfcfaaDoor.Bp Go.Proofs.YtheambpddpfcfaaDoor.Ka Go.Proofs.YtheambpddpfcfaaDoor.Kb Go.Proofs.YtheambpddpfcfaaDoor.Se Go.Proofs.YtheambpddpfcfaaDoor.Rk
attribute [local go_sem] kUpon_value kUpon_skip kUpon_enter
theorem span_c (w : World) (sz cut len i : Int) (v : Value) (h1 : 0 ≤ i) (h2 : i ≤ 16777216) (h3 : 1 ≤ sz) (h4 : sz ≤ 4096) (h5 : 0 ≤ len) (h6 : len ≤ 9223372036854775807) :
    Calls Tryd.prog 53 #[sigV sz cut len v, .int .i64 i] w fun e w' => e = .returned (.tuple #[.int .i64 (i * sz), .int .i64 (min sz (len - i * sz))]) ∧ Below w.heap.size w w' := by
  unfold sigV
  have hm : 0 ≤ i * sz := Int.mul_nonneg h1 (by omega)
  have hm2 : i * sz ≤ 16777216 * 4096 := Int.mul_le_mul h2 h4 (by omega) (by omega)
  obtain ⟨at_, hat⟩ : ∃ at_, at_ = i * sz := ⟨_, rfl⟩
  obtain ⟨n, hn⟩ : ∃ n, n = min sz (len - at_) := ⟨_, rfl⟩
  rw [← hat] at hm hm2 ⊢
  rw [← hn]
  have e1 : wrap64 (i * sz) = at_ := by rw [← hat]; exact IntWalk.wrap64_in _ (by omega)
  have e3 : wrap64 (len - at_) = len - at_ := IntWalk.wrap64_in _ (by omega)
  have e4 : (if len - at_ < sz then len - at_ else sz) = n := by rw [hn]; split <;> omega
  clear hat hn
  have Hb := hide (below_new w (.cells #[.int .i64 sz, .int .i64 cut, .int .i64 len, v] 26))
  have c0 : (w.alloc (.cells #[.int .i64 sz, .int .i64 cut, .int .i64 len, v] 26)).cell? ⟨w.heap.size, 0, none⟩ = some (.int .i64 sz) := blk_cell (heap_last _ _) rfl
  have c2 : (w.alloc (.cells #[.int .i64 sz, .int .i64 cut, .int .i64 len, v] 26)).cell? ⟨w.heap.size, 2, none⟩ = some (.int .i64 len) := blk_cell (heap_last _ _) rfl
  go_enter Tryd.func53, Tryd.ntmps53
  go_wp2_with fail
  generalize (w.alloc (.cells #[.int .i64 sz, .int .i64 cut, .int .i64 len, v] 26)) = w1 at *
  go_quiet (fail)
  have HB2 := hide (below_drewN Hb.out nq)
  go_wp2
  go_ret2
  refine ⟨?_, HB2.out⟩
  show Ending.returned (.tuple #[.int .i64 (wrap64 (i * sz)), .int .i64 n]) = _
  rw [e1]
theorem und_int : Tryd.prog.underlying 3 = some (.int .i64) := Tryd.underlying3
/-- Blocks' values. -/
def blkV (q : IntKind) (b : Blk) : Value := .agg (blkC q b).toArray
theorem agg_sum (u : World) : Sem.run Tryd.prog (isAgg 61) u = .ok true u := by kernel_rfl
theorem agg_int (u : World) : Sem.run Tryd.prog (isAgg 3) u = .ok false u := by kernel_rfl
theorem agg_u32 (u : World) : Sem.run Tryd.prog (isAgg 50) u = .ok false u := by kernel_rfl
theorem size_sum (u : World) : Sem.run Tryd.prog (sizeOf 61) u = .ok 32 u := by kernel_rfl
theorem blk_tail (q : IntKind) (b : Blk) (h : b.ok) : (blkC q b).toArray.extract 1 33 = u8s b.s := by
  apply Array.toList_inj.1
  have := blkC_length (q := q) h
  simp [blkC, u8s_list, List.take_of_length_le, b8_length, h.2.1]
theorem part_sum (q : IntKind) (b : Blk) (h : b.ok) (u : World) : Sem.run Tryd.prog (part 61 (blkC q b).toArray 1) u = .ok (.agg (u8s b.s)) u := by
  simp only [part, Sem.run_bind, agg_sum, size_sum, Result.andThen_ok, if_true]
  rw [blk_tail q b h]
  rfl
theorem part_weak (q : IntKind) (T : TypeId) (hT : ∀ u, Sem.run Tryd.prog (isAgg T) u = .ok false u) (b : Blk) (u : World) : Sem.run Tryd.prog (part T (blkC q b).toArray 0) u = .ok (.int q (b.w : Int)) u := by
  simp only [part, Sem.run_bind, hT, Result.andThen_ok]
  simp [blkC, go_sem]
theorem sum_eq_at (d : Nat) (X Y : List Nat) (hX : X.length = 32) (hY : Y.length = 32) (u : World) :
    Sem.run Tryd.prog (Op.equalIn (d + 2) 61 (.agg (u8s X)) (.agg (u8s Y))) u = .ok (decide (X = Y)) u := by
  obtain ⟨i, hi, _⟩ := Option.map_eq_some_iff.1 info_u8s
  rw [run_equalIn_array (P := Tryd.prog) u (d + 1) (t := 61) (e := 5) (n := 32) (i := i) (u8s X) (u8s Y) Tryd.underlying61 hi, cells_u8, items_u8 d X Y u (List.range 32) (fun i hi => by rw [List.mem_range] at hi; omega), all_range X Y hX hY]
theorem fields_blk : (Tryd.prog.fieldsOf 63).toList.map (fun f => (f.name, f.type, f.offset)) = [("Weak", 50, 0), ("Strong", 61, 1)] := by kernel_rfl
theorem fields_ref : (Tryd.prog.fieldsOf 111).toList.map (fun f => (f.name, f.type, f.offset)) = [("Weak", 3, 0), ("Strong", 61, 1)] := by kernel_rfl
theorem blk_eq_any (q q' : IntKind) (T W : TypeId) (hT : Tryd.prog.underlying T = some (.struct (Tryd.prog.fieldsOf T))) (hF : (Tryd.prog.fieldsOf T).toList.map (fun f => (f.name, f.type, f.offset)) = [("Weak", W, 0), ("Strong", 61, 1)]) (hs : Tryd.prog.stoodInHeld T = false) (hW : Tryd.prog.underlying W = some (.int q')) (hA : ∀ u, Sem.run Tryd.prog (isAgg W) u = .ok false u) (b c : Blk) (hb : b.ok) (hc : c.ok) (u : World) :
    Sem.run Tryd.prog (Op.equalIn 10000 T (.agg (blkC q b).toArray) (.agg (blkC q c).toArray)) u = .ok (decide (b = c)) u := by
  rw [run_equalIn_struct u 9999 T _ _ hT hs]
  have hsum := sum_eq_at 9997 b.s c.s hb.2.1 hc.2.1
  revert hF
  generalize (Tryd.prog.fieldsOf T).toList = fs
  intro hF
  have hl : fs.length = 2 := by have := congrArg List.length hF; simpa using this
  obtain ⟨f, g, rfl⟩ : ∃ f g, fs = [f, g] := by
    rcases fs with _ | ⟨f, _ | ⟨g, _ | ⟨k, l⟩⟩⟩
    · simp at hl
    · simp at hl
    · exact ⟨f, g, rfl⟩
    · simp at hl
  simp only [List.map_cons, List.map_nil, List.cons.injEq, Prod.mk.injEq, and_true] at hF
  obtain ⟨⟨f1, f2, f3⟩, g1, g2, g3⟩ := hF
  simp only [Op.eqFields, f1, f2, f3, g1, g2, g3, Sem.run_bind, part_weak q W hA, part_sum q _ hb, part_sum q _ hc, Result.andThen_ok, run_equalIn_int u 9998 W q q' _ _ hW, hsum, Sem.run_ite, Sem.run_pure, ne_eq, String.reduceEq, not_false_eq_true, if_true]
  by_cases hw : b.w = c.w
  · have e1 : ((b.w : Int) == (c.w : Int)) = true := by simp [hw]
    by_cases hs : b.s = c.s
    · have : b = c := by cases b; cases c; simp_all
      simp [e1, hs, this]
    · have : b ≠ c := fun e => hs (by rw [e])
      simp [e1, hs, this]
  · have e1 : ((b.w : Int) == (c.w : Int)) = false := by simp only [beq_eq_false_iff_ne]; omega
    have : b ≠ c := fun e => hw (by rw [e])
    simp [e1, this]
theorem blk_eq (b c : Blk) (hb : b.ok) (hc : c.ok) (u : World) : Sem.run Tryd.prog (Op.equalIn 10000 63 (.agg (blkC .u32 b).toArray) (.agg (blkC .u32 c).toArray)) u = .ok (decide (b = c)) u :=
  blk_eq_any .u32 .u32 63 50 (by kernel_rfl) fields_blk (by kernel_rfl) Tryd.underlying50 agg_u32 b c hb hc u
theorem ref_eq (b c : Blk) (hb : b.ok) (hc : c.ok) (u : World) : Sem.run Tryd.prog (Op.equalIn 10000 111 (.agg (blkC .i64 b).toArray) (.agg (blkC .i64 c).toArray)) u = .ok (decide (b = c)) u :=
  blk_eq_any .i64 .i64 111 3 (by kernel_rfl) fields_ref (by kernel_rfl) Tryd.underlying3 agg_int b c hb hc u
end Go.Proofs.YtheambpddpfcfaaDoor.Kc
