/- What the reference's sum needs: its bytes, its words. -/
import Derived.Test.YtpaijhmbfljfmaaDoorAp
import Derived.Test.YtpaijhmbfljfmaaDoorSr
import Derived.Test.YtpaijhmbfljfmaaDoorSrt
import Derived.Test.YtpaijhmbfljfmaaDoorRk
import Derived.Laws.IdiomStrings
import Derived.Deep.QuietTactic
import Derived.BigQuiet
import Derived.IntWalk
namespace Go.Proofs.YtpaijhmbfljfmaaDoor.Srf0
set_option linter.unusedVariables false
set_option linter.unusedSimpArgs false
set_option maxRecDepth 100000
open Go.ChangeShapes Go.WideShapes Go.ChangeAt Go.RowKit
open Go.Proofs.YtpaijhmbfljfmaaDoor.Wu Go.Proofs.YtpaijhmbfljfmaaDoor.Sm Go.Proofs.YtpaijhmbfljfmaaDoor.Sk Go.Proofs.YtpaijhmbfljfmaaDoor.Sc Go.Proofs.YtpaijhmbfljfmaaDoor.Sxa Go.Proofs.YtpaijhmbfljfmaaDoor.Sh Go.Proofs.YtpaijhmbfljfmaaDoor.Sn Go.Proofs.YtpaijhmbfljfmaaDoor.Sw0 Go.Proofs.YtpaijhmbfljfmaaDoor.So Go.Proofs.YtpaijhmbfljfmaaDoor.St Go.Proofs.YtpaijhmbfljfmaaDoor.Ap Go.Proofs.YtpaijhmbfljfmaaDoor.Sr

theorem strN_data (M : List Nat) (h : All8 M) : (strN M).data.map (fun b => Value.int .u8 (b.toNat : Int)) = (b8 M).toArray := by
  unfold strN strOfNums b8
  simp only [List.map_map, List.map_toArray]
  congr 1
  apply List.map_congr_left
  intro x hx
  have := h x hx
  simp only [Function.comp, Int.toNat_natCast, UInt8.toNat_ofNat']
  congr 1
  omega
/-- []byte(s) -/
theorem conv_bytes (w : World) (M : List Nat) (h : All8 M) (hm : M.length ≤ 70368744177664) : ∃ cap w', Sem.run Tryd.prog (convert 9 31 (.string (strN M))) w = .ok (.slice (some ⟨w.heap.size, 0, none⟩) M.length cap) w' ∧ Dst w' w.heap.size M.length cap M ∧ Below w.heap.size w w' := by
  have hr := run_bytes_of_string (P := Tryd.prog) w 9 31 5 (strN M) Tryd.underlying9 Tryd.underlying31 Tryd.underlying5
  have hsz : (strN M).size = M.length := Srt.strN_size M
  rw [hsz] at hr
  have hge := grownCap_ge w M.length 0 5
  have hle := grownCap_le_maxLen w M.length 0 5 (by unfold maxLen; omega)
  generalize grownCap w M.length 0 5 = q at hr hge hle
  have e : bytesRow (strN M) q = (b8 M).toArray ++ Array.replicate (q - M.length) (Value.int .u8 0) := by
    unfold bytesRow
    rw [strN_data M h, hsz]
  rw [e] at hr
  have hn := dst_new w.drew M (Array.replicate (q - M.length) (Value.int .u8 0)) 5 (((b8 M).toArray ++ Array.replicate (q - M.length) (Value.int .u8 0)).size, ((b8 M).toArray ++ Array.replicate (q - M.length) (Value.int .u8 0)).size + 1) (.inr (by simp [b8_length])) h (by simp; omega)
  rw [Array.size_replicate, show M.length + (q - M.length) = q by omega] at hn
  exact ⟨q, _, hr, hn, (Below.refl _ _).drew.alloc (Nat.le_refl _) _⟩
/-- Words of 64 bits as cells. -/
def u64s (L : List Nat) : Array Value := (L.map fun x : Nat => Value.int .u64 (x : Int)).toArray
theorem u64s_size (L : List Nat) : (u64s L).size = L.length := by simp [u64s]
theorem u64s_at (L : List Nat) (i : Nat) (h : i < L.length) : (u64s L)[i]? = some (.int .u64 ((L.getD i 0 : Nat) : Int)) := by simp [u64s, List.getD, h]
theorem u64s_set (L : List Nat) (i x : Nat) : (u64s L).setIfInBounds i (.int .u64 (x : Int)) = u64s (L.set i x) := by simp [u64s, List.map_set]
theorem row64 {w : World} {B i : Nat} {X : List Nat} {T : TypeId} {f : Nat × Nat} (h : w.heap[B]? = some (.cells (u64s X) T f)) (hi : i < X.length) : w.cell? ⟨B, i, none⟩ = some (.int .u64 ((X.getD i 0 : Nat) : Int)) := blk_cell h (u64s_at X i hi)
theorem right_eq (x n : Nat) (hx : x < 4294967296) (hn : 1 ≤ n) (hn' : n ≤ 31) : (bits BinOp.or IntKind.u64 ((x : Int) / 2 ^ n) (IntKind.u64.wrap ((x : Int) * 2 ^ (32 - n)))).tmod 4294967296 = (rotr x n : Int) := by
  have e1 : ((x : Int) / 2 ^ n) = ((x >>> n : Nat) : Int) := by rw [Nat.shiftRight_eq_div_pow, Int.natCast_ediv, Int.natCast_pow]; rfl
  have hb : x <<< (32 - n) < 18446744073709551616 := by
    rw [Nat.shiftLeft_eq]
    have h2 : 2 ^ (32 - n) ≤ 2 ^ 31 := Nat.pow_le_pow_right (by decide) (by omega)
    have h3 : x * 2 ^ (32 - n) ≤ 4294967295 * 2 ^ 31 := Nat.mul_le_mul (by omega) h2
    omega
  have e2 : IntKind.u64.wrap ((x : Int) * 2 ^ (32 - n)) = ((x <<< (32 - n) : Nat) : Int) := by
    have e3 : (x : Int) * 2 ^ (32 - n) = ((x <<< (32 - n) : Nat) : Int) := by rw [Nat.shiftLeft_eq, Int.natCast_mul, Int.natCast_pow]; rfl
    rw [e3, IntKind.wrap_u64]
    generalize x <<< (32 - n) = y at hb
    omega
  have h1 := shr_lt (n := n) hx
  rw [e1, e2, u64_or_nat _ _ (Nat.lt_trans h1 (by omega)) hb, Int.tmod_eq_emod_of_nonneg (Int.natCast_nonneg _), ← right_is x n hx]
  rfl
theorem right_c (x n : Nat) (w : World) (hx : x < 4294967296) (hn : 1 ≤ n) (hn' : n ≤ 31) :
    Calls Tryd.prog 61 #[.int .u64 (x : Int), .int .i64 (n : Int)] w fun e w' => e = .returned (.int .u64 (rotr x n : Int)) ∧ ∃ k, w' = w.drewN k := by
  have h1 : (0 : Int) ≤ (n : Int) := by omega
  have h2 : (n : Int) < 64 := by omega
  have h3 : (0 : Int) ≤ 32 - (n : Int) := by omega
  have h4 : (32 : Int) - (n : Int) < 64 := by omega
  go_enter Tryd.func61, Tryd.ntmps61
  have hw : IntKind.i64.wrap (32 - (n : Int)) = 32 - (n : Int) := IntWalk.i64_in _ (by omega)
  go_wp2
  go_quiet (fail)
  go_wp2
  go_ret
  refine ⟨?_, nq, rfl⟩
  show Ending.returned (.int .u64 ((bits BinOp.or IntKind.u64 ((x : Int) / 2 ^ n) (IntKind.u64.wrap ((x : Int) * 2 ^ (32 - n)))).tmod 4294967296)) = _
  rw [right_eq x n hx hn hn']
theorem parts_c (w : World) : Calls Tryd.prog 60 #[] w fun e w' => e = .returned (.slice (some ⟨w.heap.size, 0, none⟩) 64 64) ∧ w.alloc (.cells (u64s Ks) 100) = w' := by
  go_enter Tryd.func60, Tryd.ntmps60
  go_wp2
  go_ret
  exact ⟨rfl, rfl⟩
end Go.Proofs.YtpaijhmbfljfmaaDoor.Srf0
