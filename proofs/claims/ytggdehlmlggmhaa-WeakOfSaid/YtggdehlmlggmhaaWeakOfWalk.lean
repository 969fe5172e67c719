/- WeakOf: the walk. -/
import Derived.Test.YtggdehlmlggmhaaWc
import Derived.Test.YtggdehlmlggmhaaWv
import Derived.Deep.RegionHeld3
import Derived.Deep.RegionWith
import Derived.Laws.BytesArg
import Derived.LoopN
namespace Go.Proofs.Ytggdehlmlggmhaa.WeakOfW
set_option linter.unusedVariables false
set_option linter.unusedSimpArgs false
open Go.ChangeShapes Go.WideShapes Go.ChangeAt Go.RowKit
open Go.Proofs.Ytggdehlmlggmhaa.Wm Go.Proofs.Ytggdehlmlggmhaa.Wu Go.Proofs.Ytggdehlmlggmhaa.Wk Go.Proofs.Ytggdehlmlggmhaa.Wc Go.Proofs.Ytggdehlmlggmhaa.Wv

theorem some_walk (HR : RollsTrue) (b off len cap m : Nat) (L : List Int) (w : World) (hm : 0 < m) (hml : m ≤ len) (hm2 : m ≤ 2000) (hmm : len ≤ 2000 → m = len) (hmn : 2000 < len → m = 2000) (hlc : len ≤ cap) (hcap : cap ≤ 9223372036854775807)
    (hLl : L.length = m) (hL : Byt L) (hb : b < w.heap.size) (hc : ∀ i, i < m → w.cell? ⟨b, off + i, none⟩ = some (.int .u8 (L.getD i 0))) :
    Calls Try.prog 3 #[.slice (some ⟨b, off, none⟩) len cap] w fun e w' => e = .returned (.bool true) ∧ Below w.heap.size w w' := by
  have HC := hide hc
  have HL := hide hLl
  clear hc hLl
  have Hmm := hide hmm
  have Hmn := hide hmn
  clear hmm hmn
  have hif : (if (2000 : Int) < (len : Int) then (2000 : Int) else (len : Int)) = (m : Int) := by
    by_cases h : len ≤ 2000
    · rw [Hmm.out h, if_neg (by omega)]
    · rw [Hmn.out (by omega), if_pos (by omega)]; rfl
  go_enter Try.func3, Try.ntmps3
  go_wp2_with fail
  refine (HR _).mono ?_
  rintro e w1 ⟨rfl, hb1⟩
  have HB1 := hide hb1
  have hb' : b < w1.heap.size := Nat.lt_of_lt_of_le hb hb1.size
  have HC1 := hide (fun i (hi : i < m) => (hb1.cell (p := ⟨b, off + i, none⟩) hb).trans (HC.out i hi))
  clear hb1 HC
  go_wp2_with fail
  go_loopw [15, 4, 5] (fun i _ _ wr => ∃ k : Nat, k ≤ m ∧ i = .int .i64 k ∧ wr.heap[w1.heap.size]? = some (.cells #[.int .i64 (k : Int), .int .u16 (lo (L.take k)), .int .u16 (hi (L.take k))] 26 (0, 0)) ∧ Below w1.heap.size w1 wr) (fun i _ _ _ => m - (intOf i).toNat)
  case atStart => exact ⟨0, Nat.zero_le _, rfl, heap_last _ _, (Below.refl _ _).alloc (Nat.le_refl _) _⟩
  case round =>
    obtain ⟨k, hk, rfl, h1, hbel⟩ := hrel
    have H1 := hide h1
    have HB := hide hbel
    have f1 := blk3 h1
    have z1 := heap_lt h1
    clear h1 hbel
    by_cases hlt : k < m
    · have hcx : wr.cell? ⟨b, off + k, none⟩ = some (.int .u8 (L.getD k 0)) := (HB.out.cell (p := ⟨b, off + k, none⟩) hb').trans (HC1.out k hlt)
      have hx := byt_getD hL k
      have HT := hide (take_snoc L k (by rw [HL.out]; exact hlt))
      generalize L.getD k 0 = x at *
      go_wp2_with fail
      refine (in_L (L.take k) k x _ (by rw [List.length_take, HL.out]; omega) (by rw [List.length_take, HL.out]; omega) hx.1 hx.2).mono ?_
      rintro e w2 ⟨rfl, hb2⟩
      rw [← HT.out]
      have H1' := hide (below_blk hb2 z1 H1.out)
      have f2 := blk3 H1'.out
      have HB2 := hide (HB.out.trans (hb2.mono (Nat.le_of_lt z1)))
      have H3 := hide (blk3_set H1'.out (.int .i64 ((k : Int) + 1)) (.int .u16 (lo (L.take (k + 1)))) (.int .u16 (hi (L.take (k + 1)))))
      clear f1 hcx hb2
      go_wp2_with fail
      refine (size_any _ _ _ _).mono ?_
      rintro e w3 ⟨rfl, hb3⟩
      have H4 := hide (below_blk hb3 (heap_lt H3.out) H3.out)
      have hs3 := hb3.size
      have HB3 := hide ((below_set3 HB2.out (Nat.le_refl _) _ _ _).trans (hb3.mono (Nat.le_of_lt (heap_lt H3.out))))
      clear hb3 f2
      go_wp2
      go_roundw
      case rel => exact ⟨k + 1, by omega, by go_num, H4.out, HB3.out⟩
      case measure => simp [intOf]; omega
    · have hkl : k = m := by omega
      subst hkl
      have HLm := hide (List.take_of_length_le (l := L) (i := k) (by rw [HL.out]; exact Nat.le_refl _))
      rw [HLm.out] at f1
      go_wp2_with fail
      have lo1 := lo_nonneg L
      have lo2 := lo_lt L
      have hi1 := hi_nonneg L
      have hi2 := hi_lt L
      have hW : Below w.heap.size w wr := HB1.out.trans (HB.out.mono HB1.out.size)
      have hcv : ∀ u : World, Below w1.heap.size w1 u → Sem.run Try.prog (convert 22 9 (.slice (some ⟨b, off, none⟩) k cap)) u = .ok (.string (strOfNums L)) u := fun u hu =>
        run_convert_bytes_arg u 22 5 Try.underlying22 Try.underlying5 b off k cap L HL.out (fun i hi => (hu.cell (p := ⟨b, off + i, none⟩) hb').trans (HC1.out i hi)) 9 Try.underlying9
      obtain ⟨e1, e2, e3, -⟩ := f1
      have hBB := HB.out
      have hw64 : IntKind.i64.wrap (hi L * 65536 + lo L) = hi L * 65536 + lo L := IntWalk.i64_in _ (by omega)
      go_region_held3 (fun u => u.cell? ⟨w1.heap.size, 0, none⟩ = some (.int .i64 (k : Int)) ∧ u.cell? ⟨w1.heap.size, 1, none⟩ = some (.int .u16 (lo L)) ∧ u.cell? ⟨w1.heap.size, 2, none⟩ = some (.int .u16 (hi L)) ∧ Below w1.heap.size w1 u)
        (first | exact ⟨e1, e2, e3, hBB.drew⟩ | assumption | (apply keep3 <;> first | assumption | exact Nat.le_refl _))
        (first
          | (go_at_call_of 11 (Value.slice none 0 0); refine (of_none _ _ _).mono ?_; rintro e u ⟨rfl, hu⟩)
          | (go_at_call 11; refine (of_row b off cap k L _ HL.out hL (by omega) ?_ ?_).mono ?_; (exact Nat.lt_of_lt_of_le hb' hBB.size); (exact fun i hi => (hBB.cell (p := ⟨b, off + i, none⟩) hb').trans (HC1.out i hi)); rintro e u ⟨rfl, hu⟩)
          | (go_at_call 12; refine (value_any _ _ _ _ (by omega) (by omega) (by omega) (by omega)).mono ?_; rintro e u ⟨rfl, hu⟩)
          | (go_at_call 13; refine (ref_nums L _ hL (by rw [HL.out]; omega)).mono ?_; rintro e u ⟨rfl, rfl⟩))
      have hfin := HB1.out.trans ((three_below (by assumption) : Below w1.heap.size w1 u).mono HB1.out.size)
      go_wp2
      go_ret
      exact ⟨rfl, hfin⟩

theorem none_walk (HR : RollsTrue) (a : Option Addr) (cap : Nat) (w : World) (hcap : cap ≤ 9223372036854775807) :
    Calls Try.prog 3 #[.slice a 0 cap] w fun e w' => e = .returned (.bool true) ∧ Below w.heap.size w w' := by
  have hcv : ∀ u : World, Sem.run Try.prog (convert 22 9 (.slice a 0 cap)) u = .ok (.string (strOfNums [])) u := fun u => conv_none Try.prog a cap u _ _ _ Try.underlying22 Try.underlying5 Try.underlying9
  go_enter Try.func3, Try.ntmps3
  go_wp2_with fail
  refine (HR _).mono ?_
  rintro e w1 ⟨rfl, hb1⟩
  have HB1 := hide hb1
  clear hb1
  go_wp2_with fail
  refine wp_loop_rounds 1 ?_
  rw [rounds_succ]
  go_wp2_with fail
  have hBB := (Below.refl w1.heap.size w1).alloc (Nat.le_refl _) (.cells #[.int .i64 0, .int .u16 0, .int .u16 0] 26)
  have f1 := blk3 (heap_last w1 (.cells #[.int .i64 0, .int .u16 0, .int .u16 0] 26))
  generalize (w1.alloc (.cells #[.int .i64 0, .int .u16 0, .int .u16 0] 26)) = wr at *
  obtain ⟨e1, e2, e3, -⟩ := f1
  go_region_held3 (fun u => u.cell? ⟨w1.heap.size, 0, none⟩ = some (.int .i64 0) ∧ u.cell? ⟨w1.heap.size, 1, none⟩ = some (.int .u16 0) ∧ u.cell? ⟨w1.heap.size, 2, none⟩ = some (.int .u16 0) ∧ Below w1.heap.size w1 u)
    (first | exact ⟨e1, e2, e3, hBB.drew⟩ | assumption | (apply keep3 <;> first | assumption | exact Nat.le_refl _))
    (first
      | (go_at_call 11; refine (of_none _ _ _).mono ?_; rintro e u ⟨rfl, hu⟩)
      | (go_at_call 12; refine (value_any _ _ _ _ (by omega) (by omega) (by omega) (by omega)).mono ?_; rintro e u ⟨rfl, hu⟩)
      | (go_at_call 13; refine (ref_nums [] _ (fun z hz => by cases hz) (by simp)).mono ?_; rintro e u ⟨rfl, rfl⟩))
  have hfin := HB1.out.trans ((three_below (by assumption) : Below w1.heap.size w1 u).mono HB1.out.size)
  go_wp2
  go_ret
  exact ⟨rfl, hfin⟩
end Go.Proofs.Ytggdehlmlggmhaa.WeakOfW
