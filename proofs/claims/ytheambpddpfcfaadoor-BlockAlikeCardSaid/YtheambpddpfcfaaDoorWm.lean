/- Plain mathematics of the weak sum: what lists of numbers come to. Nothing of the program. -/
import Derived.WalkKit
import Derived.Laws.BitsAllLaws
import Derived.Laws.BytesArg
namespace Go.Proofs.YtheambpddpfcfaaDoor.Wm
set_option linter.unusedVariables false
set_option linter.unusedSimpArgs false
set_option maxRecDepth 100000
open Go.RowKit

/-- The bytes of a text as numbers. -/
def nums (s : ByteArray) : List Int := s.data.toList.map fun b => (b.toNat : Int)
/-- A list of bytes. -/
def Byt (L : List Int) : Prop := ∀ z ∈ L, 0 ≤ z ∧ z < 256

def pw (n : Int) : List Int → Int
  | [] => 0
  | x :: l => n * x + pw (n - 1) l
def sm : List Int → Int
  | [] => 0
  | x :: l => x + sm l
def lo (L : List Int) : Int := sm L % 65536
def hi (L : List Int) : Int := pw L.length L % 65536

theorem sm_append (L M : List Int) : sm (L ++ M) = sm L + sm M := by
  induction L with
  | nil => simp [sm]
  | cons x l ih => simp only [List.cons_append, sm, ih]; omega
theorem pw_append (n : Int) (L M : List Int) : pw n (L ++ M) = pw n L + pw (n - L.length) M := by
  induction L generalizing n with
  | nil => simp [pw]
  | cons x l ih =>
    simp only [List.cons_append, pw, ih, List.length_cons]
    rw [show n - ((l.length + 1 : Nat) : Int) = n - 1 - l.length by omega]
    omega
theorem pw_succ (n : Int) (L : List Int) : pw (n + 1) L = pw n L + sm L := by
  induction L generalizing n with
  | nil => simp [pw, sm]
  | cons x l ih =>
    have := ih (n - 1)
    rw [show n - 1 + 1 = n by omega] at this
    simp only [pw, sm]
    rw [show n + 1 - 1 = n by omega, this, Int.add_mul]
    omega
theorem pw_snoc (L : List Int) (x : Int) : pw (L ++ [x]).length (L ++ [x]) = pw L.length L + sm L + x := by
  rw [pw_append]
  simp only [List.length_append, List.length_cons, List.length_nil, pw]
  rw [show ((L.length + (0 + 1) : Nat) : Int) = L.length + 1 by omega, pw_succ, show (L.length : Int) + 1 - L.length = 1 by omega]
  omega
theorem pw_add (n : Int) (k : Nat) (L : List Int) : pw (n + k) L = pw n L + k * sm L := by
  induction k with
  | zero => simp
  | succ k ih =>
    rw [show n + ((k + 1 : Nat) : Int) = n + k + 1 by omega, pw_succ, ih, show ((k + 1 : Nat) : Int) = (k : Int) + 1 by omega, Int.add_mul]
    omega

theorem lo_nonneg (L : List Int) : 0 ≤ lo L := by unfold lo; omega
theorem lo_lt (L : List Int) : lo L < 65536 := by unfold lo; omega
theorem hi_nonneg (L : List Int) : 0 ≤ hi L := by unfold hi; omega
theorem hi_lt (L : List Int) : hi L < 65536 := by unfold hi; omega

theorem lo_snoc (L : List Int) (x : Int) : IntKind.u16.wrap (lo L + x) = lo (L ++ [x]) := by
  rw [IntKind.wrap_u16]; unfold lo; rw [sm_append]; simp only [sm]; omega
theorem hi_snoc (L : List Int) (x : Int) : IntKind.u16.wrap (hi L + lo (L ++ [x])) = hi (L ++ [x]) := by
  rw [IntKind.wrap_u16]; unfold hi lo; rw [pw_snoc, sm_append]; simp only [sm]; omega
theorem lo_tail (L : List Int) (x : Int) : IntKind.u16.wrap (lo (x :: L) - x) = lo L := by
  rw [IntKind.wrap_u16]; unfold lo; simp only [sm]; omega
theorem hi_tail (L : List Int) (x : Int) : IntKind.u16.wrap (hi (x :: L) - IntKind.u16.wrap (IntKind.u16.wrap ((x :: L).length : Int) * x)) = hi L := by
  simp only [IntKind.wrap_u16]
  unfold hi
  simp only [pw, List.length_cons]
  have e : ∀ a : Int, a % 65536 * x % 65536 = a * x % 65536 := fun a => by rw [Int.mul_emod, Int.emod_emod_of_dvd _ (Int.dvd_refl _), ← Int.mul_emod]
  rw [e]
  rw [show ((L.length + 1 : Nat) : Int) - 1 = L.length by omega]
  generalize ((L.length + 1 : Nat) : Int) * x = m
  omega
theorem lo_nil : lo [] = 0 := rfl
theorem hi_nil : hi [] = 0 := rfl

theorem byt_take {L : List Int} (h : Byt L) (k : Nat) : Byt (L.take k) := fun z hz => h z (List.mem_of_mem_take hz)
theorem byt_drop {L : List Int} (h : Byt L) (k : Nat) : Byt (L.drop k) := fun z hz => h z (List.mem_of_mem_drop hz)
theorem byt_getD {L : List Int} (h : Byt L) (k : Nat) : 0 ≤ L.getD k 0 ∧ L.getD k 0 < 256 := by
  by_cases hk : k < L.length
  · have := h L[k] (List.getElem_mem hk)
    simp [List.getD, hk]; omega
  · simp [List.getD, List.getElem?_eq_none (Nat.le_of_not_lt hk)]
theorem byt_nums (s : ByteArray) : Byt (nums s) := by
  intro z hz
  simp only [nums, List.mem_map] at hz
  obtain ⟨b, _, rfl⟩ := hz
  have := b.toNat_lt
  omega
theorem take_snoc (L : List Int) (k : Nat) (h : k < L.length) : L.take (k + 1) = L.take k ++ [L.getD k 0] := by
  rw [List.take_succ_eq_append_getElem h]; simp [List.getD, h]
theorem sm_bd {L : List Int} (h : Byt L) : 0 ≤ sm L ∧ sm L ≤ 255 * L.length := by
  induction L with
  | nil => simp [sm]
  | cons x l ih =>
    have h1 := ih (fun z hz => h z (List.mem_cons_of_mem _ hz))
    have h2 := h x (List.mem_cons_self ..)
    simp only [sm, List.length_cons]; omega
theorem pw_bd {L : List Int} (h : Byt L) (n : Int) (hn : L.length ≤ n) : 0 ≤ pw n L ∧ pw n L ≤ n * (255 * L.length) := by
  induction L generalizing n with
  | nil => simp [pw]
  | cons x l ih =>
    simp only [List.length_cons] at hn
    have h1 := ih (fun z hz => h z (List.mem_cons_of_mem _ hz)) (n - 1) (by omega)
    have h2 := h x (List.mem_cons_self ..)
    have h3 : 0 ≤ n * x := Int.mul_nonneg (by omega) h2.1
    have h4 : n * x ≤ n * 255 := Int.mul_le_mul_of_nonneg_left (by omega) (by omega)
    have h5 : (n - 1) * (255 * (l.length : Int)) ≤ n * (255 * (l.length : Int)) := Int.mul_le_mul_of_nonneg_right (by omega) (by omega)
    have h6 : n * (255 * ((l.length + 1 : Nat) : Int)) = n * (255 * (l.length : Int)) + n * 255 := by rw [show ((l.length + 1 : Nat) : Int) = l.length + 1 by omega, Int.mul_add, Int.mul_add]; omega
    simp only [pw, List.length_cons]
    rw [h6]; omega
theorem pw_bd4 {L : List Int} (h : Byt L) (n : Int) (hn : L.length ≤ n) (hn' : n ≤ 4096) : 0 ≤ pw n L ∧ pw n L ≤ 4278190080 := by
  obtain ⟨h1, h2⟩ := pw_bd h n hn
  refine ⟨h1, Int.le_trans h2 ?_⟩
  have h3 : n * (255 * (L.length : Int)) ≤ 4096 * (255 * (L.length : Int)) := Int.mul_le_mul_of_nonneg_right hn' (by omega)
  omega
theorem pw_take (L : List Int) (n : Int) (k : Nat) (h : k < L.length) : pw n (L.take (k + 1)) = pw n (L.take k) + (n - k) * L.getD k 0 := by
  rw [take_snoc L k h, pw_append, List.length_take, Nat.min_eq_left (by omega)]
  simp [pw]
theorem sm_take (L : List Int) (k : Nat) (h : k < L.length) : sm (L.take (k + 1)) = sm (L.take k) + L.getD k 0 := by
  rw [take_snoc L k h, sm_append]; simp [sm]
/-- the value: high half and low half, apart. -/
theorem or_halves (h l : Int) (hl : 0 ≤ l) (hl' : l < 65536) (hh : 0 ≤ h) (hh' : h < 65536) : bits .or .u32 (h * 65536) l = h * 65536 + l := by
  rw [u32_or _ _ (by omega) (by omega) (by omega) (by omega)]
  obtain ⟨H, rfl⟩ := Int.eq_ofNat_of_zero_le hh
  obtain ⟨M, rfl⟩ := Int.eq_ofNat_of_zero_le hl
  have e : ((H : Int) * 65536).toNat = H <<< 16 := by rw [Nat.shiftLeft_eq]; omega
  rw [e, Int.toNat_natCast, ← Nat.shiftLeft_add_eq_or_of_lt (by omega), Nat.shiftLeft_eq]
  omega
/-- A window of m numbers from place i on. -/
def win (b : List Int) (i m : Nat) : List Int := (b.drop i).take m
theorem win_cons (b : List Int) (i m : Nat) (h : i + m < b.length) (hm : 0 < m) : win b i m = b.getD i 0 :: win b (i + 1) (m - 1) := by
  obtain ⟨k, rfl⟩ : ∃ k, m = k + 1 := ⟨m - 1, by omega⟩
  have hi : i < b.length := by omega
  unfold win
  rw [List.drop_eq_getElem_cons hi, List.take_succ_cons]
  simp [List.getD, hi]
theorem win_snoc (b : List Int) (i m : Nat) (h : i + m < b.length) : win b i m ++ [b.getD (i + m) 0] = win b i (m + 1) := by
  unfold win
  rw [take_snoc _ _ (by simp; omega)]
  simp [List.getD]
theorem win_length (b : List Int) (i m : Nat) (h : i + m ≤ b.length) : (win b i m).length = m := by simp [win]; omega
theorem win_zero (b : List Int) (m : Nat) : win b 0 m = b.take m := by simp [win]
theorem nums_length (s : ByteArray) : (nums s).length = s.size := by unfold nums; rw [List.length_map, Array.length_toList]; rfl
theorem nums_getD (s : ByteArray) (k : Nat) (h : k < s.size) : (nums s).getD k 0 = (s[k].toNat : Int) := by
  have h' : k < s.data.toList.length := by simpa using h
  unfold nums
  simp only [List.getD, List.getElem?_map, List.getElem?_eq_getElem h', Option.map_some, Option.getD_some]
  rfl
theorem nums_strOfNums {L : List Int} (h : Byt L) : nums (strOfNums L) = L := by
  unfold nums
  rw [strOfNums_data, List.map_map]
  conv => rhs; rw [← List.map_id L]
  apply List.map_congr_left
  intro z hz
  have := h z hz
  simp only [Function.comp, id]
  rw [UInt8.toNat_ofNat']
  omega
end Go.Proofs.YtheambpddpfcfaaDoor.Wm
