/- Rows of bytes that the call itself made: their blocks told by lists of numbers. -/
import Derived.Test.YtkinpbhbgeiflaaDoorQa
import Derived.Test.YtkinpbhbgeiflaaDoorQd
import Derived.Laws.OwnMore
import Derived.OwnWalk
namespace Go.Proofs.YtkinpbhbgeiflaaDoor.Wy
set_option linter.unusedVariables false
set_option linter.unusedSimpArgs false
set_option maxRecDepth 100000
open Go.RowKit
open Go.Proofs.YtkinpbhbgeiflaaDoor.Wu Go.Proofs.YtkinpbhbgeiflaaDoor.Wm

/-- Block g is just these bytes. -/
def BRow (w : World) (g : Nat) (T : TypeId) (L : List Int) : Prop := w.heap[g]? = some (.cells (L.map (Value.int .u8)).toArray T (0, 0))
theorem BRow.lt {w : World} {g : Nat} {T : TypeId} {L : List Int} (h : BRow w g T L) : g < w.heap.size := heap_lt h
theorem BRow.cell {w : World} {g : Nat} {T : TypeId} {L : List Int} (h : BRow w g T L) (i : Nat) (hi : i < L.length) : w.cell? ⟨g, i, none⟩ = some (.int .u8 (L.getD i 0)) :=
  blk_cell h (by simp [List.getD, hi])
theorem BRow.free {w : World} {g : Nat} {T : TypeId} {L : List Int} (h : BRow w g T L) (i : Nat) : w.frozen? ⟨g, i, none⟩ = false := blk_free h
theorem BRow.below {B : Nat} {w w' : World} {g : Nat} {T : TypeId} {L : List Int} (h : BRow w g T L) (hb : Below B w w') (hg : g < B) : BRow w' g T L := below_blk hb hg h
theorem BRow.set {w : World} {g : Nat} {T : TypeId} {L : List Int} (h : BRow w g T L) (i : Nat) (x : Int) : BRow (w.setCell ⟨g, i, none⟩ (.int .u8 x)) g T (L.set i x) := by
  have := blk_set (i := i) h (.int .u8 x)
  unfold BRow
  rw [this]
  simp [List.map_set]
theorem BRow.alloc {w : World} {g : Nat} {T : TypeId} {L : List Int} (h : BRow w g T L) (o : Obj) : BRow (w.alloc o) g T L := heap_old h o
/-- What make has laid. -/
theorem made_brow {w : World} {base g n : Nat} {e : TypeId} (h : w.ownsRow base e 1 (.slice (some ⟨g, 0, none⟩) n n) n (List.replicate n (.int .u8 0))) : BRow w g e (List.replicate n 0) := by
  obtain ⟨h1, h2 | ⟨g', cap, cur, hv, hg, hh, h3, h4, h5, h6⟩⟩ := h
  · simp at h2
  · simp only [Value.slice.injEq, Option.some.injEq, Addr.mk.injEq] at hv
    obtain ⟨⟨rfl, -, -⟩, -, rfl⟩ := hv
    unfold BRow
    rw [hh]
    have : cur.toList = List.replicate n (.int .u8 0) := by
      rw [← h6]
      rw [List.take_of_length_le]
      simp
      omega
    rw [List.map_replicate, ← this]
theorem set_step (n k : Nat) (x : Int) (h : k < n) : (List.replicate k x ++ List.replicate (n - k) 0).set k x = List.replicate (k + 1) x ++ List.replicate (n - (k + 1)) 0 := by
  obtain ⟨d, rfl⟩ : ∃ d, n = k + 1 + d := ⟨n - (k + 1), by omega⟩
  rw [show k + 1 + d - k = d + 1 by omega, show k + 1 + d - (k + 1) = d by omega, List.replicate_succ, List.replicate_succ']
  simp
theorem lo_zeros (n : Nat) : lo (List.replicate n 0) = 0 := by
  have : ∀ n, sm (List.replicate n 0) = 0 := fun n => by induction n with
    | zero => rfl
    | succ n ih => simp [List.replicate_succ, sm, ih]
  simp [lo, this]
theorem pw_zeros (n : Nat) (c : Int) : pw c (List.replicate n 0) = 0 := by
  induction n generalizing c with
  | zero => rfl
  | succ n ih => simp [List.replicate_succ, pw, ih]
theorem hi_zeros (n : Nat) : hi (List.replicate n 0) = 0 := by simp [hi, pw_zeros]
theorem sm_alike (n : Nat) (x : Int) : sm (List.replicate n x) = n * x := by
  induction n with
  | zero => simp [sm]
  | succ n ih => rw [List.replicate_succ, sm, ih, show ((n + 1 : Nat) : Int) = n + 1 by omega, Int.add_mul]; omega
theorem pw_alike (n : Nat) (x : Int) : 2 * pw n (List.replicate n x) = (n * (n + 1)) * x := by
  induction n with
  | zero => simp [pw]
  | succ n ih =>
    rw [List.replicate_succ, pw]
    rw [show ((n + 1 : Nat) : Int) - 1 = n by omega, Int.mul_add, ih, show ((n + 1 : Nat) : Int) = (n : Int) + 1 by omega]
    generalize (n : Int) = m
    rw [show (m + 1) * (m + 1 + 1) = m * (m + 1) + 2 * (m + 1) by rw [Int.mul_add, Int.mul_one, Int.mul_comm (m + 1) (m + 1), Int.add_mul, Int.one_mul, Int.mul_add, Int.mul_one]; omega]
    rw [Int.add_mul (m * (m + 1)) (2 * (m + 1)) x, Int.mul_assoc 2 (m + 1) x]
    omega
theorem byt_alike (n : Nat) (x : Int) (h : 0 ≤ x) (h' : x < 256) : Byt (List.replicate n x) := by
  intro z hz
  rw [List.eq_of_mem_replicate hz]
  exact ⟨h, h'⟩
end Go.Proofs.YtkinpbhbgeiflaaDoor.Wy
