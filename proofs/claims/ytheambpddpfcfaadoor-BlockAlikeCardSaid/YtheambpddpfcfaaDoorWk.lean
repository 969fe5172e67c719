/- The contracts of package weak's functions, and of the reference, as plain functions of lists of numbers. -/
import Derived.Test.YtheambpddpfcfaaDoorRows
import Derived.Test.YtheambpddpfcfaaDoorWm
import Derived.Test.YtheambpddpfcfaaDoorWu
import Derived.WalkKit
import Derived.ProofKit
import Derived.OpenShut
import Derived.Below
import Derived.Outline
namespace Go.Proofs.YtheambpddpfcfaaDoor.Wk
set_option linter.unusedVariables false
set_option linter.unusedSimpArgs false
set_option maxRecDepth 100000
open Go.ChangeShapes Go.WideShapes Go.ChangeAt Go.RowKit
open Go.Proofs.YtheambpddpfcfaaDoor.Wm Go.Proofs.YtheambpddpfcfaaDoor.Wu

theorem in_any (n l h x : Int) (w : World) (hn : 0 ≤ n) (hn' : n < 4294967296) (hl : 0 ≤ l) (hl' : l < 65536) (hh : 0 ≤ h) (hh' : h < 65536) (hx : 0 ≤ x) (hx' : x < 256) :
    Calls Tryd.prog 60 #[.agg #[.int .i64 n, .int .u16 l, .int .u16 h], .int .u8 x] w fun e w' =>
      e = .returned (.agg #[.int .i64 (n + 1), .int .u16 (IntKind.u16.wrap (l + x)), .int .u16 (IntKind.u16.wrap (h + IntKind.u16.wrap (l + x)))]) ∧ Below w.heap.size w w' := by
  go_enter Tryd.func60, Tryd.ntmps60
  go_wp2
  exact bodyPost_ret (v := .agg #[.int .i64 (n + 1), .int .u16 (IntKind.u16.wrap (l + x)), .int .u16 (IntKind.u16.wrap (h + IntKind.u16.wrap (l + x)))]) (by simp [results, Tryd.results60, go_sem]) rfl ⟨rfl, ((Below.refl _ _).alloc (Nat.le_refl _) _).alloc (by simp) _⟩

theorem value_any (n l h : Int) (w : World) (hl : 0 ≤ l) (hl' : l < 65536) (hh : 0 ≤ h) (hh' : h < 65536) :
    Calls Tryd.prog 30 #[.agg #[.int .i64 n, .int .u16 l, .int .u16 h]] w fun e w' => e = .returned (.int .u32 (h * 65536 + l)) ∧ Below w.heap.size w w' := by
  have Ho := hide (or_halves h l hl hl' hh hh')
  go_enter Tryd.func30, Tryd.ntmps30
  go_wp2
  go_ret
  refine ⟨?_, (Below.refl _ _).alloc (Nat.le_refl _) _⟩
  show Ending.returned (.int .u32 (bits .or .u32 (h * 65536) l)) = _
  rw [Ho.out]

/-- In, of a window told by its bytes. -/
theorem in_L (L : List Int) (n x : Int) (w : World) (hn : n = L.length) (hn' : L.length < 2147483648) (hx : 0 ≤ x) (hx' : x < 256) :
    Calls Tryd.prog 60 #[.agg #[.int .i64 n, .int .u16 (lo L), .int .u16 (hi L)], .int .u8 x] w fun e w' =>
      e = .returned (.agg #[.int .i64 (n + 1), .int .u16 (lo (L ++ [x])), .int .u16 (hi (L ++ [x]))]) ∧ Below w.heap.size w w' := by
  refine (in_any n (lo L) (hi L) x w (by omega) (by omega) (lo_nonneg L) (lo_lt L) (hi_nonneg L) (hi_lt L) hx hx').mono ?_
  rintro e w' ⟨rfl, hb⟩
  refine ⟨?_, hb⟩
  rw [lo_snoc, hi_snoc]
/-- Of, of a slice whose elements are told. -/
theorem of_some (b off cap : Nat) (L : List Int) (w : World) (hL : Byt L) (hlen : L.length < 2147483648) (hb : b < w.heap.size) (hc : ∀ i, i < L.length → w.cell? ⟨b, off + i, none⟩ = some (.int .u8 (L.getD i 0))) :
    Calls Tryd.prog 29 #[.slice (some ⟨b, off, none⟩) L.length cap] w fun e w' =>
      e = .returned (.agg #[.int .i64 (L.length : Int), .int .u16 (lo L), .int .u16 (hi L)]) ∧ Below w.heap.size w w' := by
  have HC := hide hc
  clear hc
  go_enter Tryd.func29, Tryd.ntmps29
  go_wp2_with fail
  have hcl : L.length = L.length := rfl
  clear hcl
  go_loopw [8, 5] (fun i _ wr => ∃ k : Nat, k ≤ L.length ∧ i = .int .i64 k ∧ wr.heap[w.heap.size + 1]? = some (.cells #[.int .i64 (k : Int), .int .u16 (lo (L.take k)), .int .u16 (hi (L.take k))] 57 (0, 0)) ∧ wr.heap[w.heap.size]? = some (.cells #[.int .i64 0, .int .u16 0, .int .u16 0] 57 (0, 0)) ∧ Below w.heap.size w wr) (fun i _ _ => L.length - (intOf i).toNat)
  case atStart => exact ⟨0, Nat.zero_le _, rfl, heap_2b _ _ _, heap_2a _ _ _, ((Below.refl _ _).alloc (Nat.le_refl _) _).alloc (by simp) _⟩
  case round =>
    obtain ⟨k, hk, rfl, h1, h0, hbel⟩ := hrel
    have H1 := hide h1
    have H0 := hide h0
    have HB := hide hbel
    have f1 := blk3 h1
    have f0 := blk3 h0
    have z1 := heap_lt h1
    clear h1 h0 hbel
    by_cases hlt : k < L.length
    · have hcx : wr.cell? ⟨b, off + k, none⟩ = some (.int .u8 (L.getD k 0)) := (HB.out.cell (p := ⟨b, off + k, none⟩) hb).trans (HC.out k hlt)
      have hx := byt_getD hL k
      have HT := hide (take_snoc L k hlt)
      generalize L.getD k 0 = x at *
      go_wp2_with fail
      refine (in_L (L.take k) k x _ (by rw [List.length_take]; omega) (by rw [List.length_take]; omega) hx.1 hx.2).mono ?_
      rintro e w2 ⟨rfl, hb2⟩
      rw [← HT.out]
      have H1' := hide (below_blk hb2 z1 H1.out)
      have H0' := hide (below_blk hb2 (by omega) H0.out)
      have f2 := blk3 H1'.out
      clear f1 f0 hcx
      go_wp2
      go_roundw
      case rel => exact ⟨k + 1, by omega, by go_num, blk3_set H1'.out _ _ _, blk_set_other (blk_set_other (blk_set_other H0'.out (by omega) _) (by omega) _) (by omega) _, below_set3 (HB.out.trans (hb2.mono (by omega))) (Nat.le_succ _) _ _ _⟩
      case measure => simp [intOf]; omega
    · have hkl : k = L.length := by omega
      subst hkl
      rw [List.take_length] at f1
      go_wp2
      exact bodyPost_ret (v := .agg #[.int .i64 (L.length : Int), .int .u16 (lo L), .int .u16 (hi L)]) (by simp [results, Tryd.results29, go_sem, f0]) rfl ⟨rfl, below_set3 HB.out (Nat.le_refl _) _ _ _⟩
end Go.Proofs.YtheambpddpfcfaaDoor.Wk
