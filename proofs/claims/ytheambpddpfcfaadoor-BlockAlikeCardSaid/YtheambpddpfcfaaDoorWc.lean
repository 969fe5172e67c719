/- More contracts of package weak: Of at nothing, Of at three bytes, Roll at abc. -/
import Derived.Test.YtheambpddpfcfaaDoorWk
import Derived.Lib.SlBytesConst
import Derived.Deep.RegionHeld3
import Derived.Deep.RegionWith
import Derived.LoopN
namespace Go.Proofs.YtheambpddpfcfaaDoor.Wc
set_option linter.unusedVariables false
set_option linter.unusedSimpArgs false
set_option maxRecDepth 100000
open Go.ChangeShapes Go.WideShapes Go.ChangeAt Go.RowKit
open Go.Proofs.YtheambpddpfcfaaDoor.Wm Go.Proofs.YtheambpddpfcfaaDoor.Wu Go.Proofs.YtheambpddpfcfaaDoor.Wk

theorem of_none (a : Option Addr) (cap : Nat) (w : World) :
    Calls Tryd.prog 29 #[.slice a 0 cap] w fun e w' =>
      e = .returned (.agg #[.int .i64 0, .int .u16 0, .int .u16 0]) ∧ Below w.heap.size w w' := by
  go_enter Tryd.func29, Tryd.ntmps29
  go_wp2_with fail
  refine wp_loop_rounds 1 ?_
  rw [rounds_succ]
  go_wp2
  refine bodyPost_ret (v := .agg #[.int .i64 0, .int .u16 0, .int .u16 0]) (by simp [results, Tryd.results29, go_sem]) rfl ⟨rfl, ?_⟩
  exact ((Below.refl _ _).alloc (Nat.le_refl _) _).alloc (by simp) _

theorem of_const (b cap : Nat) (x y z : Int) (m : Nat × Nat) (T : TypeId) (w : World) (hx : Byt [x, y, z]) (hw : w.heap[b]? = some (.cells #[.int .u8 x, .int .u8 y, .int .u8 z] T m)) :
    Calls Tryd.prog 29 #[.slice (some ⟨b, 0, none⟩) 3 cap] w fun e w' =>
      e = .returned (.agg #[.int .i64 3, .int .u16 (lo [x, y, z]), .int .u16 (hi [x, y, z])]) ∧ Below w.heap.size w w' := by
  refine of_some b 0 cap [x, y, z] w hx (by simp) (heap_lt hw) (fun i hi => ?_)
  match i, hi with
  | 0, _ => exact blk_cell hw rfl
  | 1, _ => exact blk_cell hw rfl
  | 2, _ => exact blk_cell hw rfl
theorem of_abc (b cap : Nat) (m : Nat × Nat) (T : TypeId) (w : World) (hw : w.heap[b]? = some (.cells #[.int .u8 97, .int .u8 98, .int .u8 99] T m)) :
    Calls Tryd.prog 29 #[.slice (some ⟨b, 0, none⟩) 3 cap] w fun e w' =>
      e = .returned (.agg #[.int .i64 3, .int .u16 294, .int .u16 586]) ∧ Below w.heap.size w w' := of_const b cap 97 98 99 m T w (by intro z hz; simp only [List.mem_cons, List.not_mem_nil, or_false] at hz; omega) hw
theorem of_bcd (b cap : Nat) (m : Nat × Nat) (T : TypeId) (w : World) (hw : w.heap[b]? = some (.cells #[.int .u8 98, .int .u8 99, .int .u8 100] T m)) :
    Calls Tryd.prog 29 #[.slice (some ⟨b, 0, none⟩) 3 cap] w fun e w' =>
      e = .returned (.agg #[.int .i64 3, .int .u16 297, .int .u16 592]) ∧ Below w.heap.size w w' := of_const b cap 98 99 100 m T w (by intro z hz; simp only [List.mem_cons, List.not_mem_nil, or_false] at hz; omega) hw
/-- Of, at a slice of n bytes. -/
theorem of_row (b off cap n : Nat) (L : List Int) (w : World) (hn : L.length = n) (hL : Byt L) (hlen : n < 2147483648) (hb : b < w.heap.size) (hc : ∀ i, i < n → w.cell? ⟨b, off + i, none⟩ = some (.int .u8 (L.getD i 0))) :
    Calls Tryd.prog 29 #[.slice (some ⟨b, off, none⟩) n cap] w fun e w' =>
      e = .returned (.agg #[.int .i64 (n : Int), .int .u16 (lo L), .int .u16 (hi L)]) ∧ Below w.heap.size w w' := by
  subst hn
  exact of_some b off cap L w hL hlen hb hc
end Go.Proofs.YtheambpddpfcfaaDoor.Wc
