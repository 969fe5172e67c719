/- The standard's way through a message, block by block; its end. Plain numbers, nothing of the program. -/
import Derived.Test.YtlhjkacdhfchiaaDoorSm
namespace Go.Proofs.YtlhjkacdhfchiaaDoor.Sh
set_option linter.unusedVariables false
set_option linter.unusedSimpArgs false
set_option maxRecDepth 100000
open Go.Proofs.YtlhjkacdhfchiaaDoor.Sm

/-- The k-th block of a message. -/
def blk (M : List Nat) (k : Nat) : List Nat := (M.drop (64 * k)).take 64
/-- The state behind so many blocks. -/
def fold (s : S8) (M : List Nat) : Nat → S8
  | 0 => s
  | k + 1 => compress (fold s M k) (blk M k)
/-- The state behind a message's whole blocks, and what is left of it. -/
def st (M : List Nat) : S8 := fold H0 M (M.length / 64)
def rest (M : List Nat) : List Nat := M.drop (64 * (M.length / 64))
theorem fold_ok {s : S8} (h : s.ok) (M : List Nat) : ∀ k, (fold s M k).ok
  | 0 => h
  | k + 1 => compress_ok _ _
theorem st_ok (M : List Nat) : (st M).ok := fold_ok H0_ok M _
theorem rest_length (M : List Nat) : (rest M).length = M.length % 64 := by simp [rest]; omega
theorem blk_append (M x : List Nat) (k : Nat) (h : 64 * (k + 1) ≤ M.length) : blk (M ++ x) k = blk M k := by
  unfold blk
  rw [List.drop_append_of_le_length (by omega), List.take_append_of_le_length (by simp; omega)]
theorem fold_append (s : S8) (M x : List Nat) : ∀ k, 64 * k ≤ M.length → fold s (M ++ x) k = fold s M k
  | 0, _ => rfl
  | k + 1, h => by simp only [fold]; rw [fold_append s M x k (by omega), blk_append M x k h]
/-- Bytes that don't fill the block. -/
theorem st_part (M x : List Nat) (h : M.length % 64 + x.length < 64) : st (M ++ x) = st M ∧ rest (M ++ x) = rest M ++ x ∧ (M ++ x).length % 64 = M.length % 64 + x.length := by
  have e : (M ++ x).length / 64 = M.length / 64 := by simp; omega
  refine ⟨?_, ?_, by simp; omega⟩
  · unfold st; rw [e, fold_append H0 M x _ (by omega)]
  · unfold rest; rw [e, List.drop_append_of_le_length (by omega)]
/-- Bytes that fill it. -/
theorem st_full (M x : List Nat) (h : M.length % 64 + x.length = 64) : st (M ++ x) = compress (st M) (rest M ++ x) ∧ rest (M ++ x) = [] ∧ (M ++ x).length % 64 = 0 := by
  have e : (M ++ x).length / 64 = M.length / 64 + 1 := by simp; omega
  have e2 : blk (M ++ x) (M.length / 64) = rest M ++ x := by
    unfold blk rest
    rw [List.drop_append_of_le_length (by omega), List.take_of_length_le (by simp; omega)]
  refine ⟨?_, ?_, by simp; omega⟩
  · unfold st; rw [e]; simp only [fold]; rw [fold_append H0 M x _ (by omega), e2]
  · have : (rest (M ++ x)).length = 0 := by rw [rest_length]; simp; omega
    exact List.eq_nil_of_length_eq_zero this
theorem st_nil : st [] = H0 := rfl
theorem rest_nil : rest [] = [] := rfl

/-- A number of 64 bits as eight bytes, the highest first. -/
def len8 (n : Nat) : List Nat := [n / 72057594037927936 % 256, n / 281474976710656 % 256, n / 1099511627776 % 256, n / 4294967296 % 256, n / 16777216 % 256, n / 65536 % 256, n / 256 % 256, n % 256]
theorem len8_length (n : Nat) : (len8 n).length = 8 := rfl
/-- How many noughts stand between the mark and the length. -/
def gap (n : Nat) : Nat := (119 - n % 64) % 64
theorem gap_at (n : Nat) : (n + 1 + gap n + 8) % 64 = 0 := by unfold gap; omega
theorem gap_lt (n : Nat) : gap n < 64 := by unfold gap; omega
/-- What stands behind a message of so many bytes. -/
def tail (n : Nat) : List Nat := 128 :: (List.replicate (gap n) 0 ++ len8 (8 * n % 18446744073709551616))
theorem tail_length (n : Nat) : (tail n).length = gap n + 9 := by simp [tail, len8_length]
/-- The message with its end. -/
def padded (M : List Nat) : List Nat := M ++ tail M.length
theorem padded_mod (M : List Nat) : (padded M).length % 64 = 0 := by
  have := gap_at M.length
  simp [padded, tail_length]; omega
theorem all8_append {X Y : List Nat} (h : All8 X) (h' : All8 Y) : All8 (X ++ Y) := fun x hx => (List.mem_append.1 hx).elim (h x) (h' x)
theorem all8_take {X : List Nat} (h : All8 X) (k : Nat) : All8 (X.take k) := fun x hx => h x (List.mem_of_mem_take hx)
theorem all8_drop {X : List Nat} (h : All8 X) (k : Nat) : All8 (X.drop k) := fun x hx => h x (List.mem_of_mem_drop hx)
theorem all8_nil : All8 [] := fun x hx => by cases hx
theorem all8_zeros (n : Nat) : All8 (List.replicate n 0) := fun x hx => by rw [List.eq_of_mem_replicate hx]; omega
theorem all8_len8 (n : Nat) : All8 (len8 n) := by
  intro x hx
  simp only [len8, List.mem_cons, List.not_mem_nil, or_false] at hx
  omega
theorem all8_tail (n : Nat) : All8 (tail n) := by
  intro x hx
  simp only [tail, List.mem_cons, List.mem_append] at hx
  rcases hx with rfl | hx | hx
  · omega
  · exact all8_zeros _ x hx
  · exact all8_len8 _ x hx
theorem all8_padded {M : List Nat} (h : All8 M) : All8 (padded M) := all8_append h (all8_tail _)
/-- A word's four bytes, eight words' 32. -/
def four (x : Nat) : List Nat := [x / 16777216 % 256, x / 65536 % 256, x / 256 % 256, x % 256]
def bytes8 (s : S8) : List Nat := s.list.flatMap four
theorem bytes8_length (s : S8) : (bytes8 s).length = 32 := rfl
theorem all8_bytes8 (s : S8) : All8 (bytes8 s) := by
  intro x hx
  simp only [bytes8, List.mem_flatMap, four, List.mem_cons, List.not_mem_nil, or_false] at hx
  obtain ⟨y, _, hy⟩ := hx
  omega
/-- The standard's sum. -/
def sha (M : List Nat) : List Nat := bytes8 (st (padded M))
theorem sha_length (M : List Nat) : (sha M).length = 32 := rfl
theorem all8_sha (M : List Nat) : All8 (sha M) := all8_bytes8 _
end Go.Proofs.YtlhjkacdhfchiaaDoor.Sh
