/- Several texts, one behind the other. -/
import Derived.WalkKit
import Derived.Laws.BitsAllLaws
import Derived.Laws.BytesArg
import Derived.Test.YtifepgigkmhdaaaDoorRows
import Derived.Test.YtifepgigkmhdaaaDoorPa
import Derived.ProofKit
import Derived.OpenShut
import Derived.Below
import Derived.Outline
import Derived.Lib.SlBytesConst
import Derived.Deep.RegionHeld3
import Derived.Deep.RegionWith
import Derived.LoopN
import Derived.LaidMore
import Derived.Stop.Joined
import Derived.Lib.LaidTab
import Derived.Stop.LaidErr
import Derived.Deep.MidRow
import Derived.Laws.CopyOwn
import Derived.ChangeKeysEq
import Derived.ArgAppend
import Derived.Laws.AppendOwn
import Derived.Laws.BytesString
import Derived.WideShapes
import Derived.Deep.Strs
import Derived.Lib.ConvBytes
import Derived.Test.YtifepgigkmhdaaaDoorPc
/- Plain mathematics of the weak sum: what lists of numbers come to. Nothing of the program. -/
namespace Go.Proofs.YtifepgigkmhdaaaDoor.Wm
set_option linter.unusedVariables false
set_option linter.unusedSimpArgs false
set_option maxRecDepth 100000
open Go.RowKit

/-- The bytes of a text as numbers. -/
def nums (s : ByteArray) : List Int := s.data.toList.map fun b => (b.toNat : Int)
/-- A list of bytes. -/
def Byt (L : List Int) : Prop := ∀ z ∈ L, 0 ≤ z ∧ z < 256

def pw (n : Int) : List Int → Int
  | [] => 0
  | x :: l => n * x + pw (n - 1) l
def sm : List Int → Int
  | [] => 0
  | x :: l => x + sm l
def lo (L : List Int) : Int := sm L % 65536
def hi (L : List Int) : Int := pw L.length L % 65536

theorem sm_append (L M : List Int) : sm (L ++ M) = sm L + sm M := by
  induction L with
  | nil => simp [sm]
  | cons x l ih => simp only [List.cons_append, sm, ih]; omega
theorem pw_append (n : Int) (L M : List Int) : pw n (L ++ M) = pw n L + pw (n - L.length) M := by
  induction L generalizing n with
  | nil => simp [pw]
  | cons x l ih =>
    simp only [List.cons_append, pw, ih, List.length_cons]
    rw [show n - ((l.length + 1 : Nat) : Int) = n - 1 - l.length by omega]
    omega
theorem pw_succ (n : Int) (L : List Int) : pw (n + 1) L = pw n L + sm L := by
  induction L generalizing n with
  | nil => simp [pw, sm]
  | cons x l ih =>
    have := ih (n - 1)
    rw [show n - 1 + 1 = n by omega] at this
    simp only [pw, sm]
    rw [show n + 1 - 1 = n by omega, this, Int.add_mul]
    omega
theorem pw_snoc (L : List Int) (x : Int) : pw (L ++ [x]).length (L ++ [x]) = pw L.length L + sm L + x := by
  rw [pw_append]
  simp only [List.length_append, List.length_cons, List.length_nil, pw]
  rw [show ((L.length + (0 + 1) : Nat) : Int) = L.length + 1 by omega, pw_succ, show (L.length : Int) + 1 - L.length = 1 by omega]
  omega
theorem pw_add (n : Int) (k : Nat) (L : List Int) : pw (n + k) L = pw n L + k * sm L := by
  induction k with
  | zero => simp
  | succ k ih =>
    rw [show n + ((k + 1 : Nat) : Int) = n + k + 1 by omega, pw_succ, ih, show ((k + 1 : Nat) : Int) = (k : Int) + 1 by omega, Int.add_mul]
    omega

theorem lo_nonneg (L : List Int) : 0 ≤ lo L := by unfold lo; omega
theorem lo_lt (L : List Int) : lo L < 65536 := by unfold lo; omega
theorem hi_nonneg (L : List Int) : 0 ≤ hi L := by unfold hi; omega
theorem hi_lt (L : List Int) : hi L < 65536 := by unfold hi; omega

theorem lo_snoc (L : List Int) (x : Int) : IntKind.u16.wrap (lo L + x) = lo (L ++ [x]) := by
  rw [IntKind.wrap_u16]; unfold lo; rw [sm_append]; simp only [sm]; omega
theorem hi_snoc (L : List Int) (x : Int) : IntKind.u16.wrap (hi L + lo (L ++ [x])) = hi (L ++ [x]) := by
  rw [IntKind.wrap_u16]; unfold hi lo; rw [pw_snoc, sm_append]; simp only [sm]; omega
theorem lo_tail (L : List Int) (x : Int) : IntKind.u16.wrap (lo (x :: L) - x) = lo L := by
  rw [IntKind.wrap_u16]; unfold lo; simp only [sm]; omega
theorem hi_tail (L : List Int) (x : Int) : IntKind.u16.wrap (hi (x :: L) - IntKind.u16.wrap (IntKind.u16.wrap ((x :: L).length : Int) * x)) = hi L := by
  simp only [IntKind.wrap_u16]
  unfold hi
  simp only [pw, List.length_cons]
  have e : ∀ a : Int, a % 65536 * x % 65536 = a * x % 65536 := fun a => by rw [Int.mul_emod, Int.emod_emod_of_dvd _ (Int.dvd_refl _), ← Int.mul_emod]
  rw [e]
  rw [show ((L.length + 1 : Nat) : Int) - 1 = L.length by omega]
  generalize ((L.length + 1 : Nat) : Int) * x = m
  omega
theorem lo_nil : lo [] = 0 := rfl
theorem hi_nil : hi [] = 0 := rfl

theorem byt_take {L : List Int} (h : Byt L) (k : Nat) : Byt (L.take k) := fun z hz => h z (List.mem_of_mem_take hz)
theorem byt_drop {L : List Int} (h : Byt L) (k : Nat) : Byt (L.drop k) := fun z hz => h z (List.mem_of_mem_drop hz)
theorem byt_getD {L : List Int} (h : Byt L) (k : Nat) : 0 ≤ L.getD k 0 ∧ L.getD k 0 < 256 := by
  by_cases hk : k < L.length
  · have := h L[k] (List.getElem_mem hk)
    simp [List.getD, hk]; omega
  · simp [List.getD, List.getElem?_eq_none (Nat.le_of_not_lt hk)]
theorem byt_nums (s : ByteArray) : Byt (nums s) := by
  intro z hz
  simp only [nums, List.mem_map] at hz
  obtain ⟨b, _, rfl⟩ := hz
  have := b.toNat_lt
  omega
theorem take_snoc (L : List Int) (k : Nat) (h : k < L.length) : L.take (k + 1) = L.take k ++ [L.getD k 0] := by
  rw [List.take_succ_eq_append_getElem h]; simp [List.getD, h]
theorem sm_bd {L : List Int} (h : Byt L) : 0 ≤ sm L ∧ sm L ≤ 255 * L.length := by
  induction L with
  | nil => simp [sm]
  | cons x l ih =>
    have h1 := ih (fun z hz => h z (List.mem_cons_of_mem _ hz))
    have h2 := h x (List.mem_cons_self ..)
    simp only [sm, List.length_cons]; omega
theorem pw_bd {L : List Int} (h : Byt L) (n : Int) (hn : L.length ≤ n) : 0 ≤ pw n L ∧ pw n L ≤ n * (255 * L.length) := by
  induction L generalizing n with
  | nil => simp [pw]
  | cons x l ih =>
    simp only [List.length_cons] at hn
    have h1 := ih (fun z hz => h z (List.mem_cons_of_mem _ hz)) (n - 1) (by omega)
    have h2 := h x (List.mem_cons_self ..)
    have h3 : 0 ≤ n * x := Int.mul_nonneg (by omega) h2.1
    have h4 : n * x ≤ n * 255 := Int.mul_le_mul_of_nonneg_left (by omega) (by omega)
    have h5 : (n - 1) * (255 * (l.length : Int)) ≤ n * (255 * (l.length : Int)) := Int.mul_le_mul_of_nonneg_right (by omega) (by omega)
    have h6 : n * (255 * ((l.length + 1 : Nat) : Int)) = n * (255 * (l.length : Int)) + n * 255 := by rw [show ((l.length + 1 : Nat) : Int) = l.length + 1 by omega, Int.mul_add, Int.mul_add]; omega
    simp only [pw, List.length_cons]
    rw [h6]; omega
theorem pw_bd4 {L : List Int} (h : Byt L) (n : Int) (hn : L.length ≤ n) (hn' : n ≤ 4096) : 0 ≤ pw n L ∧ pw n L ≤ 4278190080 := by
  obtain ⟨h1, h2⟩ := pw_bd h n hn
  refine ⟨h1, Int.le_trans h2 ?_⟩
  have h3 : n * (255 * (L.length : Int)) ≤ 4096 * (255 * (L.length : Int)) := Int.mul_le_mul_of_nonneg_right hn' (by omega)
  omega
theorem pw_take (L : List Int) (n : Int) (k : Nat) (h : k < L.length) : pw n (L.take (k + 1)) = pw n (L.take k) + (n - k) * L.getD k 0 := by
  rw [take_snoc L k h, pw_append, List.length_take, Nat.min_eq_left (by omega)]
  simp [pw]
theorem sm_take (L : List Int) (k : Nat) (h : k < L.length) : sm (L.take (k + 1)) = sm (L.take k) + L.getD k 0 := by
  rw [take_snoc L k h, sm_append]; simp [sm]
/-- the value: high half and low half, apart. -/
theorem or_halves (h l : Int) (hl : 0 ≤ l) (hl' : l < 65536) (hh : 0 ≤ h) (hh' : h < 65536) : bits .or .u32 (h * 65536) l = h * 65536 + l := by
  rw [u32_or _ _ (by omega) (by omega) (by omega) (by omega)]
  obtain ⟨H, rfl⟩ := Int.eq_ofNat_of_zero_le hh
  obtain ⟨M, rfl⟩ := Int.eq_ofNat_of_zero_le hl
  have e : ((H : Int) * 65536).toNat = H <<< 16 := by rw [Nat.shiftLeft_eq]; omega
  rw [e, Int.toNat_natCast, ← Nat.shiftLeft_add_eq_or_of_lt (by omega), Nat.shiftLeft_eq]
  omega
/-- A window of m numbers from place i on. -/
def win (b : List Int) (i m : Nat) : List Int := (b.drop i).take m
theorem win_cons (b : List Int) (i m : Nat) (h : i + m < b.length) (hm : 0 < m) : win b i m = b.getD i 0 :: win b (i + 1) (m - 1) := by
  obtain ⟨k, rfl⟩ : ∃ k, m = k + 1 := ⟨m - 1, by omega⟩
  have hi : i < b.length := by omega
  unfold win
  rw [List.drop_eq_getElem_cons hi, List.take_succ_cons]
  simp [List.getD, hi]
theorem win_snoc (b : List Int) (i m : Nat) (h : i + m < b.length) : win b i m ++ [b.getD (i + m) 0] = win b i (m + 1) := by
  unfold win
  rw [take_snoc _ _ (by simp; omega)]
  simp [List.getD]
theorem win_length (b : List Int) (i m : Nat) (h : i + m ≤ b.length) : (win b i m).length = m := by simp [win]; omega
theorem win_zero (b : List Int) (m : Nat) : win b 0 m = b.take m := by simp [win]
theorem nums_length (s : ByteArray) : (nums s).length = s.size := by unfold nums; rw [List.length_map, Array.length_toList]; rfl
theorem nums_getD (s : ByteArray) (k : Nat) (h : k < s.size) : (nums s).getD k 0 = (s[k].toNat : Int) := by
  have h' : k < s.data.toList.length := by simpa using h
  unfold nums
  simp only [List.getD, List.getElem?_map, List.getElem?_eq_getElem h', Option.map_some, Option.getD_some]
  rfl
theorem nums_strOfNums {L : List Int} (h : Byt L) : nums (strOfNums L) = L := by
  unfold nums
  rw [strOfNums_data, List.map_map]
  conv => rhs; rw [← List.map_id L]
  apply List.map_congr_left
  intro z hz
  have := h z hz
  simp only [Function.comp, id]
  rw [UInt8.toNat_ofNat']
  omega
end Go.Proofs.YtifepgigkmhdaaaDoor.Wm
/- The contracts of package weak's functions, and of the reference, as plain functions of lists of numbers. -/
namespace Go.Proofs.YtifepgigkmhdaaaDoor.Wk
set_option linter.unusedVariables false
set_option linter.unusedSimpArgs false
set_option maxRecDepth 100000
open Go.ChangeShapes Go.WideShapes Go.ChangeAt Go.RowKit
open Go.Proofs.YtifepgigkmhdaaaDoor.Wm Go.Proofs.YtifepgigkmhdaaaDoor.Wu

theorem in_any (n l h x : Int) (w : World) (hn : 0 ≤ n) (hn' : n < 4294967296) (hl : 0 ≤ l) (hl' : l < 65536) (hh : 0 ≤ h) (hh' : h < 65536) (hx : 0 ≤ x) (hx' : x < 256) :
    Calls Tryd.prog 65 #[.agg #[.int .i64 n, .int .u16 l, .int .u16 h], .int .u8 x] w fun e w' =>
      e = .returned (.agg #[.int .i64 (n + 1), .int .u16 (IntKind.u16.wrap (l + x)), .int .u16 (IntKind.u16.wrap (h + IntKind.u16.wrap (l + x)))]) ∧ Below w.heap.size w w' := by
  go_enter Tryd.func65, Tryd.ntmps65
  go_wp2
  exact bodyPost_ret (v := .agg #[.int .i64 (n + 1), .int .u16 (IntKind.u16.wrap (l + x)), .int .u16 (IntKind.u16.wrap (h + IntKind.u16.wrap (l + x)))]) (by simp [results, Tryd.results65, go_sem]) rfl ⟨rfl, ((Below.refl _ _).alloc (Nat.le_refl _) _).alloc (by simp) _⟩

theorem value_any (n l h : Int) (w : World) (hl : 0 ≤ l) (hl' : l < 65536) (hh : 0 ≤ h) (hh' : h < 65536) :
    Calls Tryd.prog 35 #[.agg #[.int .i64 n, .int .u16 l, .int .u16 h]] w fun e w' => e = .returned (.int .u32 (h * 65536 + l)) ∧ Below w.heap.size w w' := by
  have Ho := hide (or_halves h l hl hl' hh hh')
  go_enter Tryd.func35, Tryd.ntmps35
  go_wp2
  go_ret
  refine ⟨?_, (Below.refl _ _).alloc (Nat.le_refl _) _⟩
  show Ending.returned (.int .u32 (bits .or .u32 (h * 65536) l)) = _
  rw [Ho.out]

/-- In, of a window told by its bytes. -/
theorem in_L (L : List Int) (n x : Int) (w : World) (hn : n = L.length) (hn' : L.length < 2147483648) (hx : 0 ≤ x) (hx' : x < 256) :
    Calls Tryd.prog 65 #[.agg #[.int .i64 n, .int .u16 (lo L), .int .u16 (hi L)], .int .u8 x] w fun e w' =>
      e = .returned (.agg #[.int .i64 (n + 1), .int .u16 (lo (L ++ [x])), .int .u16 (hi (L ++ [x]))]) ∧ Below w.heap.size w w' := by
  refine (in_any n (lo L) (hi L) x w (by omega) (by omega) (lo_nonneg L) (lo_lt L) (hi_nonneg L) (hi_lt L) hx hx').mono ?_
  rintro e w' ⟨rfl, hb⟩
  refine ⟨?_, hb⟩
  rw [lo_snoc, hi_snoc]
/-- Of, of a slice whose elements are told. -/
theorem of_some (b off cap : Nat) (L : List Int) (w : World) (hL : Byt L) (hlen : L.length < 2147483648) (hb : b < w.heap.size) (hc : ∀ i, i < L.length → w.cell? ⟨b, off + i, none⟩ = some (.int .u8 (L.getD i 0))) :
    Calls Tryd.prog 34 #[.slice (some ⟨b, off, none⟩) L.length cap] w fun e w' =>
      e = .returned (.agg #[.int .i64 (L.length : Int), .int .u16 (lo L), .int .u16 (hi L)]) ∧ Below w.heap.size w w' := by
  have HC := hide hc
  clear hc
  go_enter Tryd.func34, Tryd.ntmps34
  go_wp2_with fail
  have hcl : L.length = L.length := rfl
  clear hcl
  go_loopw [8, 5] (fun i _ wr => ∃ k : Nat, k ≤ L.length ∧ i = .int .i64 k ∧ wr.heap[w.heap.size + 1]? = some (.cells #[.int .i64 (k : Int), .int .u16 (lo (L.take k)), .int .u16 (hi (L.take k))] 75 (0, 0)) ∧ wr.heap[w.heap.size]? = some (.cells #[.int .i64 0, .int .u16 0, .int .u16 0] 75 (0, 0)) ∧ Below w.heap.size w wr) (fun i _ _ => L.length - (intOf i).toNat)
  case atStart => exact ⟨0, Nat.zero_le _, rfl, heap_2b _ _ _, heap_2a _ _ _, ((Below.refl _ _).alloc (Nat.le_refl _) _).alloc (by simp) _⟩
  case round =>
    obtain ⟨k, hk, rfl, h1, h0, hbel⟩ := hrel
    have H1 := hide h1
    have H0 := hide h0
    have HB := hide hbel
    have f1 := blk3 h1
    have f0 := blk3 h0
    have z1 := heap_lt h1
    clear h1 h0 hbel
    by_cases hlt : k < L.length
    · have hcx : wr.cell? ⟨b, off + k, none⟩ = some (.int .u8 (L.getD k 0)) := (HB.out.cell (p := ⟨b, off + k, none⟩) hb).trans (HC.out k hlt)
      have hx := byt_getD hL k
      have HT := hide (take_snoc L k hlt)
      generalize L.getD k 0 = x at *
      go_wp2_with fail
      refine (in_L (L.take k) k x _ (by rw [List.length_take]; omega) (by rw [List.length_take]; omega) hx.1 hx.2).mono ?_
      rintro e w2 ⟨rfl, hb2⟩
      rw [← HT.out]
      have H1' := hide (below_blk hb2 z1 H1.out)
      have H0' := hide (below_blk hb2 (by omega) H0.out)
      have f2 := blk3 H1'.out
      clear f1 f0 hcx
      go_wp2
      go_roundw
      case rel => exact ⟨k + 1, by omega, by go_num, blk3_set H1'.out _ _ _, blk_set_other (blk_set_other (blk_set_other H0'.out (by omega) _) (by omega) _) (by omega) _, below_set3 (HB.out.trans (hb2.mono (by omega))) (Nat.le_succ _) _ _ _⟩
      case measure => simp [intOf]; omega
    · have hkl : k = L.length := by omega
      subst hkl
      rw [List.take_length] at f1
      go_wp2
      exact bodyPost_ret (v := .agg #[.int .i64 (L.length : Int), .int .u16 (lo L), .int .u16 (hi L)]) (by simp [results, Tryd.results34, go_sem, f0]) rfl ⟨rfl, below_set3 HB.out (Nat.le_refl _) _ _ _⟩
end Go.Proofs.YtifepgigkmhdaaaDoor.Wk
/- More contracts of package weak: Of at nothing, Of at three bytes, Roll at abc. -/
namespace Go.Proofs.YtifepgigkmhdaaaDoor.Wc
set_option linter.unusedVariables false
set_option linter.unusedSimpArgs false
set_option maxRecDepth 100000
open Go.ChangeShapes Go.WideShapes Go.ChangeAt Go.RowKit
open Go.Proofs.YtifepgigkmhdaaaDoor.Wm Go.Proofs.YtifepgigkmhdaaaDoor.Wu Go.Proofs.YtifepgigkmhdaaaDoor.Wk

theorem of_none (a : Option Addr) (cap : Nat) (w : World) :
    Calls Tryd.prog 34 #[.slice a 0 cap] w fun e w' =>
      e = .returned (.agg #[.int .i64 0, .int .u16 0, .int .u16 0]) ∧ Below w.heap.size w w' := by
  go_enter Tryd.func34, Tryd.ntmps34
  go_wp2_with fail
  refine wp_loop_rounds 1 ?_
  rw [rounds_succ]
  go_wp2
  refine bodyPost_ret (v := .agg #[.int .i64 0, .int .u16 0, .int .u16 0]) (by simp [results, Tryd.results34, go_sem]) rfl ⟨rfl, ?_⟩
  exact ((Below.refl _ _).alloc (Nat.le_refl _) _).alloc (by simp) _

theorem of_const (b cap : Nat) (x y z : Int) (m : Nat × Nat) (T : TypeId) (w : World) (hx : Byt [x, y, z]) (hw : w.heap[b]? = some (.cells #[.int .u8 x, .int .u8 y, .int .u8 z] T m)) :
    Calls Tryd.prog 34 #[.slice (some ⟨b, 0, none⟩) 3 cap] w fun e w' =>
      e = .returned (.agg #[.int .i64 3, .int .u16 (lo [x, y, z]), .int .u16 (hi [x, y, z])]) ∧ Below w.heap.size w w' := by
  refine of_some b 0 cap [x, y, z] w hx (by simp) (heap_lt hw) (fun i hi => ?_)
  match i, hi with
  | 0, _ => exact blk_cell hw rfl
  | 1, _ => exact blk_cell hw rfl
  | 2, _ => exact blk_cell hw rfl
theorem of_abc (b cap : Nat) (m : Nat × Nat) (T : TypeId) (w : World) (hw : w.heap[b]? = some (.cells #[.int .u8 97, .int .u8 98, .int .u8 99] T m)) :
    Calls Tryd.prog 34 #[.slice (some ⟨b, 0, none⟩) 3 cap] w fun e w' =>
      e = .returned (.agg #[.int .i64 3, .int .u16 294, .int .u16 586]) ∧ Below w.heap.size w w' := of_const b cap 97 98 99 m T w (by intro z hz; simp only [List.mem_cons, List.not_mem_nil, or_false] at hz; omega) hw
theorem of_bcd (b cap : Nat) (m : Nat × Nat) (T : TypeId) (w : World) (hw : w.heap[b]? = some (.cells #[.int .u8 98, .int .u8 99, .int .u8 100] T m)) :
    Calls Tryd.prog 34 #[.slice (some ⟨b, 0, none⟩) 3 cap] w fun e w' =>
      e = .returned (.agg #[.int .i64 3, .int .u16 297, .int .u16 592]) ∧ Below w.heap.size w w' := of_const b cap 98 99 100 m T w (by intro z hz; simp only [List.mem_cons, List.not_mem_nil, or_false] at hz; omega) hw
/-- Of, at a slice of n bytes. -/
theorem of_row (b off cap n : Nat) (L : List Int) (w : World) (hn : L.length = n) (hL : Byt L) (hlen : n < 2147483648) (hb : b < w.heap.size) (hc : ∀ i, i < n → w.cell? ⟨b, off + i, none⟩ = some (.int .u8 (L.getD i 0))) :
    Calls Tryd.prog 34 #[.slice (some ⟨b, off, none⟩) n cap] w fun e w' =>
      e = .returned (.agg #[.int .i64 (n : Int), .int .u16 (lo L), .int .u16 (hi L)]) ∧ Below w.heap.size w w' := by
  subst hn
  exact of_some b off cap L w hL hlen hb hc
end Go.Proofs.YtifepgigkmhdaaaDoor.Wc
/- The reference's weak sum of a text. -/
namespace Go.Proofs.YtifepgigkmhdaaaDoor.Wv
set_option linter.unusedVariables false
set_option linter.unusedSimpArgs false
set_option maxRecDepth 100000
open Go.ChangeShapes Go.WideShapes Go.ChangeAt Go.RowKit
open Go.Proofs.YtifepgigkmhdaaaDoor.Wm Go.Proofs.YtifepgigkmhdaaaDoor.Wu

theorem w64 (x : Int) (h : -9223372036854775808 ≤ x) (h' : x ≤ 9223372036854775807) : wrap64 x = x := by
  unfold wrap64
  omega
theorem step_b (b d c : Int) (h1 : 0 ≤ b) (h2 : b ≤ 4278190080) (h3 : 0 ≤ c) (h4 : c < 256) (h5 : 0 ≤ d) (h6 : d ≤ 4096) : wrap64 (b + wrap64 (d * c)) = b + d * c := by
  have h7 : 0 ≤ d * c := Int.mul_nonneg h5 h3
  have h8 : d * c ≤ 4096 * c := Int.mul_le_mul_of_nonneg_right h6 h3
  rw [w64 (d * c) (by omega) (by omega), w64 _ (by omega) (by omega)]

theorem ref_any (s : ByteArray) (w : World) (hs : s.size ≤ 4096) :
    Calls Tryd.prog 31 #[.string s] w fun e w' => e = .returned (.int .i64 (hi (nums s) * 65536 + lo (nums s))) ∧ w = w' := by
  have HB := hide (byt_nums s)
  have HL := hide (nums_length s)
  go_enter Tryd.func31, Tryd.ntmps31
  go_wp2_with fail
  go_loop [3, 4, 5] (fun a b i => ∃ k : Nat, k ≤ s.size ∧ i = .int .i64 k ∧ a = .int .i64 (sm ((nums s).take k)) ∧ b = .int .i64 (pw s.size ((nums s).take k))) (fun _ _ i => s.size - (intOf i).toNat)
  case atStart => exact ⟨0, Nat.zero_le _, rfl, rfl, rfl⟩
  case round =>
    obtain ⟨k, hk, rfl, rfl, rfl⟩ := hrel
    have h1 := sm_bd (byt_take HB.out k)
    have h2 := pw_bd4 (byt_take HB.out k) (s.size : Int) (by rw [List.length_take, HL.out]; omega) (by omega)
    have h3 : ((nums s).take k).length ≤ k := List.length_take_le _ _
    by_cases hlt : k < s.size
    · have h4 := byt_getD HB.out k
      have H5 := hide (nums_getD s k hlt)
      have H6 := hide (pw_take (nums s) (s.size : Int) k (by rw [HL.out]; exact hlt))
      have H7 := hide (sm_take (nums s) k (by rw [HL.out]; exact hlt))
      have h5 := h4
      rw [H5.out] at h5
      go_wp2
      go_round
      case rel =>
        refine ⟨k + 1, by omega, by go_num, ?_, ?_⟩
        · rw [H7.out, H5.out]
        · rw [step_b _ ((s.size : Int) - k) _ h2.1 h2.2 h5.1 h5.2 (by omega) (by omega), H6.out, H5.out]
      case measure => simp [intOf]; omega
    · have hkl : k = s.size := by omega
      subst hkl
      have H8 := hide (List.take_of_length_le (l := nums s) (i := s.size) (by rw [HL.out]; omega))
      go_wp2
      go_ret
      refine ⟨?_, rfl⟩
      show Ending.returned (.int .i64 (pw (s.size : Int) (List.take s.size (nums s)) % 65536 * 65536 + sm (List.take s.size (nums s)) % 65536)) = _
      rw [H8.out]
      unfold hi lo
      rw [HL.out]
theorem ref_nums (L : List Int) (w : World) (hL : Byt L) (hs : L.length ≤ 4096) :
    Calls Tryd.prog 31 #[.string (strOfNums L)] w fun e w' => e = .returned (.int .i64 (hi L * 65536 + lo L)) ∧ w = w' := by
  have h := ref_any (strOfNums L) w (by rw [strOfNums_size]; exact hs)
  rw [nums_strOfNums hL] at h
  exact h
theorem conv_none (P : Program) (a : Option Addr) (cap : Nat) (u : World) (src dst e : TypeId) (hs : P.underlying src = some (.slice e)) (he : P.underlying e = some (.int .u8)) (hd : P.underlying dst = some .string) :
    Sem.run P (convert src dst (.slice a 0 cap)) u = .ok (.string (strOfNums [])) u := by
  rw [run_convert_bytes_string u src dst e a 0 cap hs he hd]
  cases a with
  | none => simp [Conv.bytesToString]; rfl
  | some x => exact run_bytesToString u x 0 cap [] (by simp [loadCells]; rfl)
end Go.Proofs.YtifepgigkmhdaaaDoor.Wv
/- What the listed variables give: the first state and the words of the rounds; a world in which they lie so. -/
namespace Go.Proofs.YtifepgigkmhdaaaDoor.Sl
set_option linter.unusedVariables false
set_option linter.unusedSimpArgs false
set_option maxRecDepth 100000
open Go.ChangeShapes Go.WideShapes Go.ChangeAt Go.RowKit
open Go.Proofs.YtifepgigkmhdaaaDoor.Wu Go.Proofs.YtifepgigkmhdaaaDoor.Sm Go.Proofs.YtifepgigkmhdaaaDoor.Sk Go.Proofs.YtifepgigkmhdaaaDoor.Sc Go.Proofs.YtifepgigkmhdaaaDoor.Sxa Go.Proofs.YtifepgigkmhdaaaDoor.Sn

abbrev laid : List (String × DataW Unit) := [("wharfinger/sum.firstState", Rows.laid_wharfinger_sum_firstState), ("wharfinger/sum.roundWords", Rows.laid_wharfinger_sum_roundWords)]
theorem gF : Tryd.prog.globalNamed "wharfinger/sum.firstState" = some 1 := by kernel_rfl
theorem gR : Tryd.prog.globalNamed "wharfinger/sum.roundWords" = some 2 := by kernel_rfl
theorem tF : (Tryd.prog.globals[1]?).map (·.type) = some 193 := by kernel_rfl
theorem tR : (Tryd.prog.globals[2]?).map (·.type) = some 244 := by kernel_rfl
theorem dF : (Rows.laid_wharfinger_sum_firstState : DataW Unit) = Lib.tabData .u32 (H0.list.map fun x : Nat => (x : Int)) := by rfl
theorem dR : (Rows.laid_wharfinger_sum_roundWords : DataW Unit) = Lib.tabData .u32 (Ks.map fun x : Nat => (x : Int)) := by rfl
theorem of_tab {W : World} {name : String} {g : Nat} {X : List Nat} (hg : Tryd.prog.globalNamed name = some g) (h : Lib.TabIs Tryd.prog W name .u32 (X.map fun x : Nat => (x : Int))) : ∃ T f, W.heap[g]? = some (.cells (u32s X) T f) := by
  unfold Lib.TabIs World.var? at h
  rw [hg, Option.bind_some] at h
  split at h
  · rename_i cs T f hh
    injection h with h
    refine ⟨T, f, ?_⟩
    rw [hh, h]
    unfold u32s
    simp
  · cases h
theorem of_laid {W : World} (h : laidMetH Tryd.prog laid W) : Fst W ∧ Tbl W := by
  rw [MakeChecks.laidMetH_plain _ _ _ (by kernel_rfl)] at h
  have h1 : laidMet Tryd.prog [("wharfinger/sum.firstState", Lib.tabData .u32 (H0.list.map fun x : Nat => (x : Int))), ("wharfinger/sum.roundWords", Lib.tabData .u32 (Ks.map fun x : Nat => (x : Int)))] W := by
    rw [← dF, ← dR]; exact h
  have a1 := Lib.tabIs_of_head gF tF Tryd.underlying193 Tryd.underlying68 (by kernel_rfl) (by kernel_rfl) h1
  have a2 := Lib.tabIs_of_head gR tR Tryd.underlying244 Tryd.underlying68 (by kernel_rfl) (by kernel_rfl) (laidMet.tail h1)
  exact ⟨of_tab gF a1, of_tab gR a2⟩
theorem door_met (os : Os) (args : Array Value) : laidMetH Tryd.prog laid ((World.doorLaid Tryd.prog 400 os).forCall (fun _ _ => 0) ⟨#[], args, []⟩).memory :=
  laidMetH_of_parts3 (fuel := 8) (laidMet_of_run' 8 (by kernel_rfl) (by kernel_rfl)) (by kernel_rfl) (by kernel_rfl)
end Go.Proofs.YtifepgigkmhdaaaDoor.Sl
/- Rows of bytes, for any program that has them: cells, sources, blocks that are known whole. -/
namespace Go.Proofs.YtifepgigkmhdaaaDoor.Ba
set_option linter.unusedVariables false
set_option linter.unusedSimpArgs false
set_option maxRecDepth 100000
open Go.ChangeShapes Go.WideShapes Go.ChangeAt Go.RowKit
open Go.Proofs.YtifepgigkmhdaaaDoor.Wu Go.Proofs.YtifepgigkmhdaaaDoor.Sm Go.Proofs.YtifepgigkmhdaaaDoor.Sh

/-- Numbers as the cells of a row. -/
def u8s (L : List Nat) : Array Value := (L.map fun x : Nat => Value.int .u8 (x : Int)).toArray
theorem u8s_size (L : List Nat) : (u8s L).size = L.length := by simp [u8s]
theorem u8s_at (L : List Nat) (i : Nat) (h : i < L.length) : (u8s L)[i]? = some (.int .u8 ((L.getD i 0 : Nat) : Int)) := by simp [u8s, List.getD, h]
theorem u8s_set (L : List Nat) (i x : Nat) : (u8s L).setIfInBounds i (.int .u8 (x : Int)) = u8s (L.set i x) := by simp [u8s, List.map_set]
theorem size_u8 (u : World) : Sem.run Tryd.prog (Go.sizeOf 5) u = .ok 1 u := by kernel_rfl
/-- A block's list of cells behind a store of a row into it. -/
theorem blk_setCells {T : TypeId} {f : Nat × Nat} {B : Nat} : ∀ (vs : List Value) (o : Nat) (w : World) (xs : List Value), o + vs.length ≤ xs.length → w.heap[B]? = some (.cells xs.toArray T f) →
    (w.setCells B o vs).heap[B]? = some (.cells (xs.take o ++ vs ++ xs.drop (o + vs.length)).toArray T f)
  | [], o, w, xs, _, h => by simp [World.setCells, h]
  | v :: vs, o, w, xs, hl, h => by
    rw [World.setCells]
    have h1 := blk_set (i := o) h v
    rw [List.setIfInBounds_toArray] at h1
    have h2 := blk_setCells vs (o + 1) _ (xs.set o v) (by simp at *; omega) h1
    rw [h2]
    simp only [List.length_cons] at hl ⊢
    congr 3
    rw [List.set_eq_take_append_cons_drop, if_pos (by omega)]
    have hA : (xs.take o).length = o := by rw [List.length_take]; omega
    have e1 : (xs.take o ++ v :: xs.drop (o + 1)).take (o + 1) = xs.take o ++ [v] := by
      rw [List.take_append, hA, List.take_of_length_le (by omega), show o + 1 - o = 1 by omega]; rfl
    have e2 : (xs.take o ++ v :: xs.drop (o + 1)).drop (o + 1 + vs.length) = xs.drop (o + (vs.length + 1)) := by
      rw [List.drop_append, hA, List.drop_eq_nil_of_le (by omega), show o + 1 + vs.length - o = vs.length + 1 by omega, List.drop_succ_cons, List.drop_drop, List.nil_append]
      congr 1; omega
    rw [e1, e2]
    simp
theorem below_setCells {N : Nat} {u : World} : ∀ (vs : List Value) (B o : Nat) (w : World), Below N u w → N ≤ B → Below N u (w.setCells B o vs)
  | [], _, _, _, h, _ => h
  | v :: vs, B, o, w, h, hB => by
    rw [World.setCells]
    exact below_setCells vs B (o + 1) _ (h.setCell hB _) hB
theorem results_one_cell {fn : Func} {p : Tmp} {ty : TypeId} (h : fn.results = #[.cell p ty]) (tmps : Array Value) (P : Program) (w : World) :
    (results fn tmps).run P w = ((asAddr (tmps.getD p undef)).run P w).andThen fun a w₁ => (loadVar ty a).run P w₁ := by
  simp only [results, h]
  simp [Sem.run_bind, Result.andThen]
theorem row8 {w : World} {B i : Nat} {X : List Nat} {T : TypeId} {f : Nat × Nat} (h : w.heap[B]? = some (.cells (u8s X) T f)) (hi : i < X.length) : w.cell? ⟨B, i, none⟩ = some (.int .u8 ((X.getD i 0 : Nat) : Int)) := blk_cell h (u8s_at X i hi)
theorem heap_3c (w : World) (o p q : Obj) : (((w.alloc o).alloc p).alloc q).heap[w.heap.size + 1 + 1]? = some q := by
  have := heap_last ((w.alloc o).alloc p) q
  simpa [World.size_alloc] using this
/-- Noughts. -/
def zeros (n : Nat) : List Nat := List.replicate n 0
theorem zeros_length (n : Nat) : (zeros n).length = n := List.length_replicate ..
theorem of_hid {p : Prop} (h : p) : Hid p := h
theorem range8_all {w : World} {B : Nat} {X : List Nat} {T : TypeId} {f : Nat × Nat} (h : w.heap[B]? = some (.cells (u8s X) T f)) : w.rangeAt B 0 (u8s X).toList := fun j v hv => by
  refine blk_cell h ?_
  simpa using hv
theorem grown_setCell {a w : World} {g : Nat} (h : a.grownBy w (some g)) (o : Nat) (v : Value) : a.grownBy (w.setCell ⟨g, o, none⟩ v) (some g) :=
  ⟨h.os, h.tape, h.output, by simpa [World.setCell] using h.size, fun i hi hne => (Below.heap_setCell w ⟨g, o, none⟩ v i (fun e => hne (by rw [e]))).trans (h.block i hi hne)⟩
theorem grown_setRow {a w : World} {g : Nat} (h : a.grownBy w (some g)) (cs : Array Value) : a.grownBy (w.setRow g cs) (some g) :=
  ⟨h.os, h.tape, h.output, by simpa [World.setRow] using h.size, fun i hi hne => (setRow_other w g i cs (fun e => hne (by rw [e]))).trans (h.block i hi hne)⟩
theorem grown_drew {a w : World} {row : Option Nat} (h : a.grownBy w row) : a.grownBy w.drew row := ⟨h.os, h.tape, h.output, h.size, h.block⟩
theorem grown_below {a w w' : World} {g : Option Nat} {N : Nat} (h : a.grownBy w g) (hb : Below N w w') (hN : a.heap.size ≤ N) : a.grownBy w' g :=
  ⟨hb.os.trans h.os, hb.tape.trans h.tape, hb.output.trans h.output, Nat.le_trans h.size hb.size, fun i hi hne => (hb.block i (Nat.lt_of_lt_of_le hi hN)).trans (h.block i hi hne)⟩
theorem grown_trans {a b c : World} {g : Option Nat} (h : a.grownBy b g) (k : b.grownBy c g) : a.grownBy c g :=
  ⟨k.os.trans h.os, k.tape.trans h.tape, k.output.trans h.output, Nat.le_trans h.size k.size, fun i hi hne => (k.block i (Nat.lt_of_lt_of_le hi h.size) hne).trans (h.block i hi hne)⟩
theorem grown_cell {a w : World} {g : Nat} (h : a.grownBy w (some g)) {b o : Nat} {v : Value} (hb : b ≠ g) (hc : a.cell? ⟨b, o, none⟩ = some v) : w.cell? ⟨b, o, none⟩ = some v := by
  have hl := cell_lt hc
  have e := h.block b hl (fun e => hb (by injection e))
  exact (World.cell?_of_block (a := ⟨b, o, none⟩) e).trans hc
theorem elem_bs : Tryd.prog.elem 22 = 5 := by simp [Program.elem, Tryd.underlying22]
theorem und_bs : Tryd.prog.underlying 22 = some (.slice (Tryd.prog.elem 22)) := by rw [elem_bs]; exact Tryd.underlying22
/-- b[n:] -/
theorem slice_from (u : World) (a : Option Addr) (len cap n : Nat) (h : n ≤ len) :
    Sem.run Tryd.prog (Instr.slice 22 (.slice a len cap) (some (.int .i64 (n : Int))) none none) u = .ok (.slice (if cap = n then a else a.map (·.add n)) (len - n) (cap - n)) u := by
  rw [run_slice_l u 22 a len cap und_bs .i64 _ (by omega) (by omega), elem_bs, size_u8]
  simp only [Result.andThen, sliced, Int.toNat_natCast, Nat.mul_one]
theorem info_u8s : (Tryd.prog.info? 5).map (·.size) = some 1 := by kernel_rfl
/-- A row of bytes' cells. -/
def b8 (X : List Nat) : List Value := X.map fun x : Nat => Value.int .u8 (x : Int)
theorem b8_length (X : List Nat) : (b8 X).length = X.length := by simp [b8]
theorem b8_one (X : List Nat) : ∀ v ∈ b8 X, v.oneCell' = true := by
  intro v hv
  simp only [b8, List.mem_map] at hv
  obtain ⟨x, _, rfl⟩ := hv
  rfl
theorem b8_at {X : List Nat} {j : Nat} {v : Value} (h : (b8 X)[j]? = some v) : j < X.length ∧ v = .int .u8 ((X.getD j 0 : Nat) : Int) := by
  have hj : j < X.length := by have := (List.getElem?_eq_some_iff.1 h).1; rwa [b8_length] at this
  refine ⟨hj, ?_⟩
  simp only [b8, List.getElem?_map, List.getElem?_eq_getElem hj, Option.map_some, Option.some.injEq] at h
  rw [← h]
  simp [List.getD, hj]
theorem there8 {w : World} {B : Nat} {X : List Nat} {T : TypeId} (h : w.heap[B]? = some (.cells (u8s X) T (0, 0))) : w.there B 0 X.length := fun j hj =>
  ⟨by rw [Nat.zero_add, row8 h hj]; rfl, blk_free h⟩
theorem u8s_one (X : List Nat) : (u8s X).all (·.oneCell') = true := by
  unfold u8s
  exact all_oneCell_toArray (fun v hv => by simp only [List.mem_map] at hv; obtain ⟨z, _, rfl⟩ := hv; rfl)
theorem u8s_list (X : List Nat) : (u8s X).toList = b8 X := rfl
theorem u8s_b8 (X : List Nat) : u8s X = (b8 X).toArray := rfl
theorem set_all8 {w : World} {B : Nat} {T : TypeId} (X Y : List Nat) (h : w.heap[B]? = some (.cells (u8s Y) T (0, 0))) (hl : X.length = Y.length) : (w.setCells B 0 (u8s X).toList).heap[B]? = some (.cells (u8s X) T (0, 0)) := by
  have e := blk_setCells (u8s X).toList 0 w (u8s Y).toList (by simp [u8s_size]; omega) (by rw [Array.toArray_toList]; exact h)
  rw [e, List.take_zero, List.nil_append, List.drop_eq_nil_of_le (by simp [u8s_size]; omega), List.append_nil, Array.toArray_toList]
theorem setCells_other {B k : Nat} (hk : k ≠ B) : ∀ (vs : List Value) (o : Nat) (w : World), (w.setCells B o vs).heap[k]? = w.heap[k]?
  | [], _, _ => rfl
  | v :: vs, o, w => by
    rw [World.setCells, setCells_other hk vs (o + 1)]
    exact Below.heap_setCell _ _ _ _ hk
theorem grown_setCells {B : Nat} : ∀ (vs : List Value) (o : Nat) (w : World), w.grownBy (w.setCells B o vs) (some B)
  | [], _, w => World.grownBy.refl w _
  | v :: vs, o, w => by
    rw [World.setCells]
    exact grown_trans (grown_setCell (World.grownBy.refl w (some B)) o v) (grown_setCells vs (o + 1) _)
theorem wpList_store_whole {P : Program} {ops : Array Oper} {rest : List Oper} {op : Oper} {a : Act} {w : World} {Q : Exit → Act → World → Prop} (hgd : op.guard = none) (ty : TypeId) (x y : Operand) (ho : op.op = .store ty x y)
    (b : Nat) (X Y : List Nat) (T : TypeId) (hx : a.eval x = .pointer (some ⟨b, 0, none⟩)) (hy : a.eval y = .agg (u8s X)) (hg : w.heap[b]? = some (.cells (u8s Y) T (0, 0))) (hl : X.length = Y.length)
    (hi : (P.info? ty).map (·.size) = some X.length)
    (h : ∀ w', Hid (w'.heap[b]? = some (.cells (u8s X) T (0, 0))) → Hid (w.grownBy w' (some b)) → Hid (wpList P ops Q rest (a.put op.dst undef) w')) : wpList P ops Q (op :: rest) a w :=
  wpList_store_mid hgd ty x y ho b 0 (u8s X) hx hy (by rw [u8s_size, hl]; exact there8 hg) (by rw [u8s_size]; exact hi) (u8s_one X) (h _ (set_all8 X Y hg hl) (grown_setCells _ _ _))
theorem wpList_load_whole {P : Program} {ops : Array Oper} {rest : List Oper} {op : Oper} {a : Act} {w : World} {Q : Exit → Act → World → Prop} (hgd : op.guard = none) (ty : TypeId) (x : Operand) (ho : op.op = .load ty x)
    (b : Nat) (X : List Nat) (T : TypeId) (f : Nat × Nat) (hx : a.eval x = .pointer (some ⟨b, 0, none⟩)) (hg : w.heap[b]? = some (.cells (u8s X) T f)) (d : TypeDesc)
    (hu : P.underlying ty = some d) (hd : d.isRow = true) (hi : (P.info? ty).map (·.size) = some X.length)
    (h : wpList P ops Q rest (a.put op.dst (.agg (u8s X))) w) : wpList P ops Q (op :: rest) a w := by
  refine wpList_load_mid hgd ty x ho b 0 hx (u8s X).toList d (range8_all hg) hu hd (by rw [Array.length_toList, u8s_size]; exact hi) ?_
  rw [Array.toArray_toList]
  exact h
theorem ret_whole {P : Program} {fn : Func} {p : Tmp} {ty : TypeId} {R : Ending → World → Prop} {a : Act} {w : World} (hr : fn.results = #[.cell p ty]) (b : Nat) (X : List Nat) (T : TypeId) (f : Nat × Nat) (hp : a.tmps.getD p undef = .pointer (some ⟨b, 0, none⟩))
    (hg : w.heap[b]? = some (.cells (u8s X) T f)) (d : TypeDesc) (hu : P.underlying ty = some d) (hd : d.isRow = true) (hi : (P.info? ty).map (·.size) = some X.length) (hde : a.defers = []) (h : R (.returned (.agg (u8s X))) w) : bodyPost P fn R .ret a w := by
  refine bodyPost_ret (v := .agg (u8s X)) ?_ hde h
  rw [results_one_cell hr, hp]
  have h4 := run_loadVar_mid (P := P) w b 0 ty (u8s X).toList d (range8_all hg) hu hd (by rw [Array.length_toList, u8s_size]; exact hi)
  rw [Array.toArray_toList] at h4
  simpa [asAddr] using h4
/-- A block other than the one that turned. -/
theorem keepG {w w' : World} {g k : Nat} {x : Obj} (h : w.grownBy w' (some g)) (hk : k ≠ g) (hx : w.heap[k]? = some x) : w'.heap[k]? = some x :=
  (h.block k (heap_lt hx) (fun e => hk (by injection e))).trans hx
theorem belowG {w0 w w' : World} {g N : Nat} (hb : Below N w0 w) (h : w.grownBy w' (some g)) (hN : N ≤ g) (hs : N ≤ w.heap.size) : Below N w0 w' :=
  hb.trans ⟨h.os, h.tape, h.output, h.size, fun k hk => h.block k (by omega) (fun e => by injection e with e; omega)⟩
/-- A slice of m bytes L: nil, empty, or over cells that are there. -/
def SrcB (w : World) (a : Option Addr) (m : Nat) (L : List Nat) : Prop :=
  L.length = m ∧ All8 L ∧ ∃ b off, (0 < m → a = some ⟨b, off, none⟩) ∧ ∀ i, i < m → w.cell? ⟨b, off + i, none⟩ = some (.int .u8 ((L.getD i 0 : Nat) : Int))
theorem SrcB.nil (w : World) (a : Option Addr) : SrcB w a 0 [] := ⟨rfl, all8_nil, 0, 0, fun h => absurd h (by omega), fun i h => absurd h (by omega)⟩
theorem SrcB.below {w w' : World} {a : Option Addr} {m : Nat} {L : List Nat} (h : SrcB w a m L) (hb : Below w.heap.size w w') : SrcB w' a m L := by
  obtain ⟨h1, h2, b, off, h3, h4⟩ := h
  exact ⟨h1, h2, b, off, h3, fun i hi => keepC hb (Nat.le_refl _) (h4 i hi)⟩
end Go.Proofs.YtifepgigkmhdaaaDoor.Ba
/- Two sums compared, for any program that has them. -/
namespace Go.Proofs.YtifepgigkmhdaaaDoor.Se
set_option linter.unusedVariables false
set_option linter.unusedSimpArgs false
set_option maxRecDepth 100000
open Go.ChangeShapes Go.WideShapes Go.ChangeAt Go.RowKit
open Go.Proofs.YtifepgigkmhdaaaDoor.Wu Go.Proofs.YtifepgigkmhdaaaDoor.Sm Go.Proofs.YtifepgigkmhdaaaDoor.Sh Go.Proofs.YtifepgigkmhdaaaDoor.Ba
theorem und_u8 : Tryd.prog.underlying 5 = some (.int .u8) := Tryd.underlying5
theorem cells_u8 : Tryd.prog.cellsOf 5 = 1 := by kernel_rfl
theorem part_u8 (X : List Nat) (i : Nat) (h : i < X.length) (u : World) : Sem.run Tryd.prog (part 5 (u8s X) i) u = .ok (.int .u8 ((X.getD i 0 : Nat) : Int)) u := by
  have e : (u8s X)[i]? = some (.int .u8 ((X.getD i 0 : Nat) : Int)) := u8s_at X i h
  simp [part, e, size_u8, go_sem]
theorem items_u8 (d : Nat) (X Y : List Nat) (u : World) : ∀ is : List Nat, (∀ i ∈ is, i < X.length ∧ i < Y.length) →
    Sem.run Tryd.prog (Op.eqItems (d + 1) 5 1 (u8s X) (u8s Y) is) u = .ok (is.all fun i => X.getD i 0 == Y.getD i 0) u
  | [], _ => by simp [Op.eqItems]
  | i :: is, h => by
    have hi := h i (List.mem_cons_self ..)
    simp only [Op.eqItems, Sem.run_bind, Nat.mul_one, part_u8 X i hi.1, part_u8 Y i hi.2, Result.andThen_ok, run_equalIn_int u d 5 .u8 .u8 _ _ und_u8]
    rw [List.all_cons]
    by_cases he : X.getD i 0 = Y.getD i 0
    · rw [he]
      simp only [BEq.rfl, Bool.not_true, Bool.false_eq_true, if_false, Bool.true_and]
      exact items_u8 d X Y u is fun j hj => h j (List.mem_cons_of_mem _ hj)
    · have e1 : (((X.getD i 0 : Nat) : Int) == ((Y.getD i 0 : Nat) : Int)) = false := by simp only [beq_eq_false_iff_ne]; omega
      have e2 : (X.getD i 0 == Y.getD i 0) = false := by simpa using he
      rw [e1, e2]
      simp
theorem all_range (X Y : List Nat) (h : X.length = 32) (h' : Y.length = 32) : ((List.range 32).all fun i => X.getD i 0 == Y.getD i 0) = decide (X = Y) := by
  rw [Bool.eq_iff_iff]
  simp only [List.all_eq_true, List.mem_range, beq_iff_eq, decide_eq_true_eq]
  constructor
  · intro hh
    apply List.ext_getElem (by omega)
    intro i h1 h2
    have := hh i (by omega)
    simpa [List.getD, h1, h2] using this
  · rintro rfl i _; rfl
/-- Two sums, compared. -/
theorem sum_eq (X Y : List Nat) (hX : X.length = 32) (hY : Y.length = 32) (u : World) :
    Sem.run Tryd.prog (Op.equalIn 10000 79 (.agg (u8s X)) (.agg (u8s Y))) u = .ok (decide (X = Y)) u := by
  obtain ⟨i, hi, _⟩ := Option.map_eq_some_iff.1 info_u8s
  rw [run_equalIn_array (P := Tryd.prog) u 9999 (t := 79) (e := 5) (n := 32) (i := i) (u8s X) (u8s Y) Tryd.underlying79 hi, cells_u8, items_u8 9998 X Y u (List.range 32) (fun i hi => by rw [List.mem_range] at hi; omega), all_range X Y hX hY]
theorem sum_same (X : List Nat) (hX : X.length = 32) (u : World) : Sem.run Tryd.prog (Op.equalIn 10000 79 (.agg (u8s X)) (.agg (u8s X))) u = .ok true u := by
  rw [sum_eq X X hX hX]; simp
end Go.Proofs.YtifepgigkmhdaaaDoor.Se
/- append on slices of bytes, told by their cells: whatever the capacity is, wherever the row lies. -/
namespace Go.Proofs.YtifepgigkmhdaaaDoor.Bp
set_option linter.unusedVariables false
set_option linter.unusedSimpArgs false
set_option maxRecDepth 100000
open Go.RowKit
open Go.Proofs.YtifepgigkmhdaaaDoor.Wu Go.Proofs.YtifepgigkmhdaaaDoor.Sm Go.Proofs.YtifepgigkmhdaaaDoor.Sh Go.Proofs.YtifepgigkmhdaaaDoor.Ba

/-- A row of n bytes L with room for cap, from the beginning of block g on. -/
structure Dst (w : World) (g n cap : Nat) (L : List Nat) : Prop where
  len : L.length = n
  all : All8 L
  fit : n ≤ cap
  max : cap ≤ maxLen
  lt : g < w.heap.size
  cells : w.rangeAt g 0 (b8 L)
  spare : w.there g n (cap - n)
  free : ∀ o, w.frozen? ⟨g, o, none⟩ = false
theorem Dst.below {w w' : World} {g n cap N : Nat} {L : List Nat} (h : Dst w g n cap L) (hb : Below N w w') (hg : g < N) : Dst w' g n cap L :=
  ⟨h.len, h.all, h.fit, h.max, Nat.lt_of_lt_of_le h.lt hb.size, fun j v hv => by rw [hb.cell (p := ⟨g, 0 + j, none⟩) hg]; exact h.cells j v hv,
    fun j hj => ⟨by rw [hb.cell (p := ⟨g, n + j, none⟩) hg]; exact (h.spare j hj).1, by rw [hb.frozen (p := ⟨g, n + j, none⟩) hg]; exact (h.spare j hj).2⟩,
    fun o => by rw [hb.frozen (p := ⟨g, o, none⟩) hg]; exact h.free o⟩
theorem Dst.kept {w w' : World} {g n cap k : Nat} {L : List Nat} (h : Dst w g n cap L) (hb : w.grownBy w' (some k)) (hg : g ≠ k) : Dst w' g n cap L := by
  have e := hb.block g h.lt (fun e => hg (by injection e))
  refine ⟨h.len, h.all, h.fit, h.max, Nat.lt_of_lt_of_le h.lt hb.size, fun j v hv => by rw [World.cell?_of_block (a := ⟨g, 0 + j, none⟩) e]; exact h.cells j v hv, fun j hj => ?_, fun o => by rw [World.frozen?_of_block (a := ⟨g, o, none⟩) e]; exact h.free o⟩
  refine ⟨by rw [World.cell?_of_block (a := ⟨g, n + j, none⟩) e]; exact (h.spare j hj).1, ?_⟩
  have := (h.spare j hj).2
  unfold World.frozen? at this ⊢
  simp only at this ⊢
  rw [e]; exact this
theorem Dst.drew {w : World} {g n cap : Nat} {L : List Nat} (h : Dst w g n cap L) : Dst w.drew g n cap L := ⟨h.len, h.all, h.fit, h.max, h.lt, h.cells, h.spare, h.free⟩
theorem Dst.src {w : World} {g n cap : Nat} {L : List Nat} (h : Dst w g n cap L) : SrcB w (some ⟨g, 0, none⟩) n L :=
  ⟨h.len, h.all, g, 0, fun _ => rfl, fun i hi => h.cells i _ (by
    unfold b8
    rw [List.getElem?_map, List.getElem?_eq_getElem (by rw [h.len]; exact hi)]
    simp [List.getD, List.getElem?_eq_getElem (show i < L.length by rw [h.len]; exact hi)])⟩
theorem Dst.cell {w : World} {g n cap : Nat} {L : List Nat} (h : Dst w g n cap L) {i : Nat} (hi : i < n) : w.cell? ⟨g, i, none⟩ = some (.int .u8 ((L.getD i 0 : Nat) : Int)) := by
  obtain ⟨_, _, b, off, h3, h4⟩ := h.src
  have := h.cells i (.int .u8 ((L.getD i 0 : Nat) : Int)) (by
    unfold b8
    rw [List.getElem?_map, List.getElem?_eq_getElem (by rw [h.len]; exact hi)]
    simp [List.getD, List.getElem?_eq_getElem (show i < L.length by rw [h.len]; exact hi)])
  rwa [Nat.zero_add] at this
theorem info_bs : (Tryd.prog.info? 5).map (fun i => (i.zero, i.size, i.bytes)) = some (some (.int .u8 0), 1, 1) := by kernel_rfl
/-- A new block whose first cells are these bytes. -/
theorem dst_new (w : World) (L : List Nat) (zs : Array Value) (T : TypeId) (f : Nat × Nat) (hf : f = (0, 0)) (h8 : All8 L) (hm : L.length + zs.size ≤ maxLen) : Dst (w.alloc (.cells ((b8 L).toArray ++ zs) T f)) w.heap.size L.length (L.length + zs.size) L := by
  have hh := heap_last w (.cells ((b8 L).toArray ++ zs) T f)
  have fz : ∀ o, (w.alloc (.cells ((b8 L).toArray ++ zs) T f)).frozen? ⟨w.heap.size, o, none⟩ = false := by
    intro o
    unfold World.frozen?
    simp only [hh]
    cases hf
    simp
  refine ⟨rfl, h8, by omega, hm, by simp, fun j v hv => ?_, fun j hj => ?_, ?_⟩
  · rw [Nat.zero_add]
    refine blk_cell hh ?_
    have hj : j < (b8 L).length := (List.getElem?_eq_some_iff.1 hv).1
    rw [Array.getElem?_append_left (by simpa using hj)]
    simpa using hv
  · refine ⟨?_, ?_⟩
    · rw [blk_cell hh (x := ((b8 L).toArray ++ zs)[L.length + j]'(by simp [b8_length]; omega)) (by rw [Array.getElem?_eq_getElem])]; rfl
    · exact fz _
  · exact fz
theorem append_none (w : World) (ty : TypeId) (g n cap c : Nat) (hf : n ≤ cap) : (Builtin.append_ #[22, 22] ty #[.slice (some ⟨g, 0, none⟩) n cap, .slice none 0 c]).run Tryd.prog w = .ok (.slice (some ⟨g, 0, none⟩) n cap) w := by
  obtain ⟨i0, hi0, hz0, hz1, hz2⟩ := info_parts info_bs
  simp [Builtin.append_, run_underlying Tryd.underlying22, sizeOf, typeInfo, hi0, Builtin.lenOf, Builtin.firstCells, hf, storeCells]
set_option maxRecDepth 100000 in
theorem append_dst (w : World) (ty : TypeId) (g n cap : Nat) (L : List Nat) (A : Option Addr) (m c : Nat) (L' : List Nat) (hd : Dst w g n cap L) (hs : SrcB w A m L') (hbig : n + m ≤ 70368744177664) (hc : A = none → m = 0) :
    ∃ g' cap' w', (Builtin.append_ #[22, 22] ty #[.slice (some ⟨g, 0, none⟩) n cap, .slice A m c]).run Tryd.prog w = .ok (.slice (some ⟨g', 0, none⟩) (n + m) cap') w' ∧
      Dst w' g' (n + m) cap' (L ++ L') ∧ w.grownBy w' (some g) ∧ (g' = g ∨ g' = w.heap.size) ∧ w'.rangeAt g 0 (b8 L) := by
  obtain ⟨i0, hi0, hz0, hz1, hz2⟩ := info_parts info_bs
  obtain ⟨hl, h8, b, off, ha, hcell⟩ := hs
  cases A with
  | none =>
    obtain rfl := hc rfl
    obtain rfl : L' = [] := List.length_eq_zero_iff.1 hl
    exact ⟨g, cap, w, append_none w ty g n cap c hd.fit, by simpa using hd, World.grownBy.refl w _, .inl rfl, hd.cells⟩
  | some ad =>
    have hnews : ∀ j u, (b8 L')[j]? = some u → w.cell? (ad.add j) = some u := by
      intro j u hu
      obtain ⟨hj, rfl⟩ := b8_at hu
      have := ha (by omega)
      injection this with this
      subst this
      rw [Addr.add_mid]
      exact hcell j (by omega)
    by_cases hroom : n + m ≤ cap
    · have hr := run_append_room_cells (P := Tryd.prog) w 22 ty 5 i0 Tryd.underlying22 hi0 g 0 n cap ad m c (b8 L') (by rw [b8_length, hl, hz1, Nat.mul_one]) hnews (b8_one L') hroom
        (fun j hj => by rw [hz1, Nat.mul_one, Nat.zero_add]; exact (hd.spare j (by rw [b8_length] at hj; omega)).1) (fun j hj => by rw [hz1, Nat.mul_one, Nat.zero_add]; exact (hd.spare j (by rw [b8_length] at hj; omega)).2)
      rw [hz1, Nat.mul_one, Nat.zero_add] at hr
      have hth : w.there g n (b8 L').length := fun j hj => hd.spare j (by rw [b8_length] at hj; omega)
      refine ⟨g, cap, _, hr, ⟨by rw [List.length_append, hd.len, hl], all8_append hd.all h8, hroom, hd.max, ?_, ?_, ?_, fun o => by rw [World.frozen?_setCells]; exact hd.free o⟩, ?_, .inl rfl, World.rangeAt_setCells_apart hd.cells g n (b8 L') (by right; left; rw [b8_length, hd.len]; omega)⟩
      · have : ∀ (vs : List Value) (o : Nat) (w : World), (w.setCells g o vs).heap.size = w.heap.size := by
          intro vs
          induction vs with
          | nil => intro o w; rfl
          | cons v vs ih => intro o w; rw [World.setCells, ih]; simp [World.setCell]
        rw [this]; exact hd.lt
      · intro j v hv
        have e : b8 (L ++ L') = b8 L ++ b8 L' := by unfold b8; rw [List.map_append]
        rw [e] at hv
        by_cases hj : j < (b8 L).length
        · rw [List.getElem?_append_left hj] at hv
          have h1 := World.rangeAt_setCells_apart hd.cells g n (b8 L') (by right; left; rw [b8_length, hd.len]; omega)
          exact h1 j v hv
        · rw [List.getElem?_append_right (by omega)] at hv
          have h1 := World.rangeAt_setCells_same w g n (b8 L') hth (j - (b8 L).length) v hv
          rw [b8_length, hd.len] at h1
          rw [b8_length, hd.len] at hj
          rw [Nat.zero_add, show j = n + (j - n) by omega]
          exact h1
      · intro j hj
        have h1 := World.there_setCells (b' := g) (o' := n) (n := cap - n) hd.spare g n (b8 L') (m + j) (by omega)
        rw [show n + m + j = n + (m + j) by omega]
        exact h1
      · have : ∀ (vs : List Value) (o : Nat) (u : World), u.grownBy (u.setCells g o vs) (some g) := by
          intro vs
          induction vs with
          | nil => intro o u; exact World.grownBy.refl u _
          | cons v vs ih => intro o u; rw [World.setCells]; exact grown_trans (grown_setCell (World.grownBy.refl u (some g)) o v) (ih (o + 1) _)
        exact this _ _ _
    · have hr := run_append_grow (P := Tryd.prog) w 22 ty 5 i0 (.int .u8 0) Tryd.underlying22 hi0 hz0 ⟨g, 0, none⟩ n cap (b8 L) (by rw [b8_length, hd.len, hz1, Nat.mul_one]) (fun j v hv => by rw [Addr.add_mid]; exact hd.cells j v hv) ad m c (b8 L') (by rw [b8_length, hl, hz1, Nat.mul_one]) hnews (by omega) (by omega) (growslice_fits (by omega) (by rw [hz2]; omega))
      have hge := grownCap_ge w (n + m) cap 5
      have hle := grownCap_le_maxLen w (n + m) cap 5 (by unfold maxLen; omega)
      generalize grownCap w (n + m) cap 5 = q at hr hge hle
      have hzs : (Builtin.zeroCells (Value.int .u8 0).cells (q - (n + m))).size = q - (n + m) := by rw [size_zeroCells]; simp [Value.cells]
      generalize Builtin.zeroCells (Value.int .u8 0).cells (q - (n + m)) = Z at hr hzs
      have e : (b8 L).toArray ++ (b8 L').toArray = (b8 (L ++ L')).toArray := by unfold b8; rw [List.map_append]; simp
      rw [e] at hr
      have hn := dst_new w.drew (L ++ L') Z 5 (0, 0) rfl (all8_append hd.all h8) (by rw [List.length_append, hd.len, hl, hzs]; omega)
      rw [List.length_append, hd.len, hl, hzs, show n + m + (q - (n + m)) = q by omega] at hn
      exact ⟨w.heap.size, q, _, hr, hn, ⟨rfl, rfl, rfl, by simp, fun k hk _ => Below.heap_alloc w.drew _ k hk⟩, .inr rfl, fun j v hv => by rw [World.cell?_of_block (a := ⟨g, 0 + j, none⟩) (Below.heap_alloc w.drew _ g hd.lt)]; exact hd.cells j v hv⟩
/-- append as a step of the walk. -/
theorem wpList_append_dst {w : World} {ops : Array Oper} {rest : List Oper} {o : Oper} {a : Act} {Q : Exit → Act → World → Prop} (hgd : o.guard = none) (s x : Operand)
    (ho : o.op = .call { callee := .builtin .append, args := #[s, x], argTypes := #[22, 22] }) (g n cap : Nat) (L : List Nat) (A : Option Addr) (m c : Nat) (L' : List Nat)
    (hs : a.eval s = .slice (some ⟨g, 0, none⟩) n cap) (hx : a.eval x = .slice A m c) (hd : Dst w g n cap L) (hsrc : SrcB w A m L') (hbig : n + m ≤ 70368744177664) (hc : A = none → m = 0)
    (h : ∀ g' cap' w', Hid (Dst w' g' (n + m) cap' (L ++ L')) → Hid (w.grownBy w' (some g)) → (g' = g ∨ g' = w.heap.size) → Hid (w'.rangeAt g 0 (b8 L)) → Hid (wpList Tryd.prog ops Q rest (a.put o.dst (.slice (some ⟨g', 0, none⟩) (n + m) cap')) w')) : wpList Tryd.prog ops Q (o :: rest) a w := by
  obtain ⟨g', cap', w', hrun, h1, h2, h3, h4⟩ := append_dst w o.type g n cap L A m c L' hd hsrc hbig hc
  refine wpList_plain hgd fun K hK => ?_
  unfold Oper.wp
  simp [execOp, ho, resolve, invoke, builtin, hs, hx, hrun, Result.andThen]
  exact hK _ _ (h g' cap' w' h1 h2 h3 h4)
end Go.Proofs.YtifepgigkmhdaaaDoor.Bp
/- A buffer of the call's own, nil at first: append to it. -/
namespace Go.Proofs.YtifepgigkmhdaaaDoor.Bq
set_option linter.unusedVariables false
set_option linter.unusedSimpArgs false
set_option maxRecDepth 100000
open Go.RowKit
open Go.Proofs.YtifepgigkmhdaaaDoor.Wu Go.Proofs.YtifepgigkmhdaaaDoor.Sm Go.Proofs.YtifepgigkmhdaaaDoor.Sh Go.Proofs.YtifepgigkmhdaaaDoor.Ba Go.Proofs.YtifepgigkmhdaaaDoor.Bp

/-- The slice v has the bytes L: nil, or a row in a block that isn't below N. -/
def Buf (w : World) (v : Value) (N : Nat) (L : List Nat) : Prop :=
  (v = .slice none 0 0 ∧ L = []) ∨ ∃ g cap, v = .slice (some ⟨g, 0, none⟩) L.length cap ∧ N ≤ g ∧ Dst w g L.length cap L
theorem Buf.all {w : World} {v : Value} {N : Nat} {L : List Nat} (h : Buf w v N L) : All8 L := by
  rcases h with ⟨_, rfl⟩ | ⟨g, cap, _, _, hd⟩
  · exact all8_nil
  · exact hd.all
theorem Buf.up {w w' : World} {v : Value} {N : Nat} {L : List Nat} (h : Buf w v N L) (hb : Below w.heap.size w w') : Buf w' v N L := by
  rcases h with h | ⟨g, cap, h1, h2, hd⟩
  · exact .inl h
  · exact .inr ⟨g, cap, h1, h2, hd.below hb hd.lt⟩
theorem Buf.form {w : World} {v : Value} {N : Nat} {L : List Nat} (h : Buf w v N L) : ∃ a cap, v = .slice a L.length cap ∧ SrcB w a L.length L ∧ L.length ≤ cap ∧ cap ≤ maxLen ∧ (a = none → L.length = 0 ∧ cap = 0) := by
  rcases h with ⟨rfl, rfl⟩ | ⟨g, cap, rfl, _, hd⟩
  · exact ⟨none, 0, rfl, SrcB.nil w none, Nat.le_refl _, Nat.zero_le _, fun _ => ⟨rfl, rfl⟩⟩
  · exact ⟨some ⟨g, 0, none⟩, cap, rfl, hd.src, hd.fit, hd.max, fun h => by cases h⟩
theorem append_nil_dst (w : World) (ty : TypeId) (ad : Addr) (m c : Nat) (L' : List Nat) (hm : 0 < m) (hs : SrcB w (some ad) m L') (hbig : m ≤ 70368744177664) :
    ∃ cap' w', (Builtin.append_ #[22, 22] ty #[.slice none 0 0, .slice (some ad) m c]).run Tryd.prog w = .ok (.slice (some ⟨w.heap.size, 0, none⟩) m cap') w' ∧ Dst w' w.heap.size m cap' L' ∧ Below w.heap.size w w' := by
  obtain ⟨i0, hi0, hz0, hz1, hz2⟩ := info_parts info_bs
  obtain ⟨hl, h8, b, off, ha, hcell⟩ := hs
  have hnews : ∀ j u, (b8 L')[j]? = some u → w.cell? (ad.add j) = some u := by
    intro j u hu
    obtain ⟨hj, rfl⟩ := b8_at hu
    have := ha hm
    injection this with this
    subst this
    rw [Addr.add_mid]
    exact hcell j (by omega)
  have hr := run_append_nil (P := Tryd.prog) w 22 ty 5 i0 (.int .u8 0) Tryd.underlying22 hi0 hz0 ad m c (b8 L') (by rw [b8_length, hl, hz1, Nat.mul_one]) hnews hm (by omega) (by rw [hz2]; omega)
  have hge := grownCap_ge w m 0 5
  have hle := grownCap_le_maxLen w m 0 5 (by unfold maxLen; omega)
  generalize grownCap w m 0 5 = q at hr hge hle
  have hzs : (Builtin.zeroCells (Value.int .u8 0).cells (q - m)).size = q - m := by rw [size_zeroCells]; simp [Value.cells]
  generalize Builtin.zeroCells (Value.int .u8 0).cells (q - m) = Z at hr hzs
  have hn := dst_new w.drew L' Z 5 (0, 0) rfl h8 (by rw [hl, hzs]; omega)
  rw [hl, hzs, show m + (q - m) = q by omega] at hn
  exact ⟨q, _, hr, hn, (Below.refl _ _).drew.alloc (Nat.le_refl _) _⟩
theorem append_buf (w : World) (ty : TypeId) (v : Value) (N : Nat) (L : List Nat) (A : Option Addr) (m c : Nat) (L' : List Nat) (hb : Buf w v N L) (hN : N ≤ w.heap.size) (hs : SrcB w A m L') (hc : A = none → m = 0) (hbig : L.length + m ≤ 70368744177664) (hm : 0 < m) :
    ∃ v' w', (Builtin.append_ #[22, 22] ty #[v, .slice A m c]).run Tryd.prog w = .ok v' w' ∧ Buf w' v' N (L ++ L') ∧ Below N w w' := by
  have hl := hs.1
  rcases hb with ⟨rfl, rfl⟩ | ⟨g, cap, rfl, hg, hd⟩
  · cases A with
    | none => have := hc rfl; omega
    | some ad =>
      obtain ⟨cap', w', hr, hd, hb⟩ := append_nil_dst w ty ad m c L' hm hs (by simpa using hbig)
      refine ⟨_, _, hr, .inr ⟨w.heap.size, cap', ?_, hN, ?_⟩, hb.mono hN⟩
      · rw [List.nil_append, hl]
      · rw [List.nil_append, hl]; exact hd
  · obtain ⟨g', cap', w', hr, hd', hG, hgg, -⟩ := append_dst w ty g L.length cap L A m c L' hd hs hbig hc
    refine ⟨_, _, hr, .inr ⟨g', cap', ?_, ?_, ?_⟩, ?_⟩
    · rw [List.length_append, hl]
    · rcases hgg with rfl | rfl <;> omega
    · rw [List.length_append, hl]; exact hd'
    · exact ⟨hG.os, hG.tape, hG.output, hG.size, fun k hk => hG.block k (by omega) (fun e => by injection e with e; omega)⟩
/-- append as a step of the walk. -/
theorem wpList_append_buf {w : World} {ops : Array Oper} {rest : List Oper} {o : Oper} {a : Act} {Q : Exit → Act → World → Prop} (hgd : o.guard = none) (s x : Operand)
    (ho : o.op = .call { callee := .builtin .append, args := #[s, x], argTypes := #[22, 22] }) (v : Value) (N : Nat) (L : List Nat) (A : Option Addr) (m c : Nat) (L' : List Nat)
    (hs : a.eval s = v) (hx : a.eval x = .slice A m c) (hb : Buf w v N L) (hN : N ≤ w.heap.size) (hsrc : SrcB w A m L') (hc : A = none → m = 0) (hbig : L.length + m ≤ 70368744177664) (hm : 0 < m)
    (h : ∀ v' w', Hid (Buf w' v' N (L ++ L')) → Hid (Below N w w') → Hid (wpList Tryd.prog ops Q rest (a.put o.dst v') w')) : wpList Tryd.prog ops Q (o :: rest) a w := by
  obtain ⟨v', w', hrun, h1, h2⟩ := append_buf w o.type v N L A m c L' hb hN hsrc hc hbig hm
  refine wpList_plain hgd fun K hK => ?_
  unfold Oper.wp
  simp [execOp, ho, resolve, invoke, builtin, hs, hx, hrun, Result.andThen]
  exact hK _ _ (h v' w' h1 h2)
theorem src_one {w : World} {B : Nat} {x : Nat} {T : TypeId} {f : Nat × Nat} (h : w.heap[B]? = some (.cells #[.int .u8 (x : Int)] T f)) (hx : x < 256) : SrcB w (some ⟨B, 0, none⟩) 1 [x] :=
  ⟨rfl, by intro z hz; simp only [List.mem_singleton] at hz; omega, B, 0, fun _ => rfl, fun i hi => by
    obtain rfl : i = 0 := by omega
    exact blk_cell h rfl⟩
end Go.Proofs.YtifepgigkmhdaaaDoor.Bq
/- Texts of bytes; a slice of bytes as a text. -/
namespace Go.Proofs.YtifepgigkmhdaaaDoor.Bs
set_option linter.unusedVariables false
set_option linter.unusedSimpArgs false
set_option maxRecDepth 100000
open Go.RowKit
open Go.Proofs.YtifepgigkmhdaaaDoor.Wu Go.Proofs.YtifepgigkmhdaaaDoor.Sm Go.Proofs.YtifepgigkmhdaaaDoor.Sh Go.Proofs.YtifepgigkmhdaaaDoor.Ba Go.Proofs.YtifepgigkmhdaaaDoor.Bp Go.Proofs.YtifepgigkmhdaaaDoor.Bq
def strN (L : List Nat) : ByteArray := strOfNums (L.map fun x : Nat => (x : Int))
theorem strN_size (A : List Nat) : (strN A).size = A.length := by unfold strN; rw [strOfNums_size]; simp
theorem conv_row {w : World} {B off n cap : Nat} {L : List Nat} (hl : L.length = n) (hc : ∀ i, i < n → w.cell? ⟨B, off + i, none⟩ = some (.int .u8 ((L.getD i 0 : Nat) : Int))) :
    Sem.run Tryd.prog (convert 22 9 (.slice (some ⟨B, off, none⟩) n cap)) w = .ok (.string (strN L)) w :=
  run_convert_bytes_arg w 22 5 Tryd.underlying22 Tryd.underlying5 B off n cap (L.map fun x : Nat => (x : Int)) (by simp [hl]) (fun i hi => by
    rw [hc i hi]; simp [List.getD, List.getElem?_eq_getElem (show i < L.length by omega)]) 9 Tryd.underlying9
theorem conv_none (a : Option Addr) (cap : Nat) (u : World) : Sem.run Tryd.prog (convert 22 9 (.slice a 0 cap)) u = .ok (.string (strN [])) u := by
  rw [run_convert_bytes_string u 22 9 5 a 0 cap Tryd.underlying22 Tryd.underlying5 Tryd.underlying9]
  cases a with
  | none => simp [Conv.bytesToString]; rfl
  | some x => exact run_bytesToString u x 0 cap [] (by simp [loadCells]; rfl)
theorem conv_src {w : World} {a : Option Addr} {n cap : Nat} {L : List Nat} (h : SrcB w a n L) : Sem.run Tryd.prog (convert 22 9 (.slice a n cap)) w = .ok (.string (strN L)) w := by
  obtain ⟨hl, h8, b, off, ha, hc⟩ := h
  by_cases h0 : n = 0
  · subst h0
    obtain rfl : L = [] := List.length_eq_zero_iff.1 hl
    exact conv_none a cap w
  · obtain rfl := ha (by omega)
    exact conv_row hl hc
end Go.Proofs.YtifepgigkmhdaaaDoor.Bs
/- Opening an argument that is two numbers. -/
namespace Go.Proofs.YtifepgigkmhdaaaDoor.Bj
set_option linter.unusedVariables false
set_option linter.unusedSimpArgs false
set_option maxRecDepth 100000
open Go.RowKit Go.WideShapes Go.ChangeShapes
theorem okWide_array {P : Program} {w : World} {r : Reach} {base n : Nat} {t e : TypeId} {v : Value} (ht : P.underlying t = some (.array n e)) (h : Value.okWide P w r base t v) : ∃ cs, v = .agg cs ∧ cs.size = P.cellsOf t := by
  unfold Value.okWide at h
  rw [ht] at h
  cases v <;> simp_all
theorem i64_bd {n : Int} (h : (Lit.int .i64 n).wf = true) : -9223372036854775808 ≤ n ∧ n ≤ 9223372036854775807 := by
  simp [Lit.wf, IntKind.min, IntKind.max, IntKind.signed, IntKind.bits] at h
  omega
theorem open_pair {H : Type} {enc : TypeId × Value → H} {P : Program} {w : World} {r : Reach} {b0 base : Nat} {spare : Nat → Bool} {held : Bool} {t e : TypeId} {v : Value} {d : DataW H} {p : List MemPlace}
    (ht : P.underlying t = some (.array 2 e)) (he : P.underlying e = some (.int .i64)) (hce : P.cellsOf e = 1) (hct : P.cellsOf t = 2) (hv : Value.okWide P w r b0 t v) (h : DataW.Trod enc P w base spare held t v d p) :
    ∃ x y : Int, v = .agg #[.int .i64 x, .int .i64 y] ∧ (-9223372036854775808 ≤ x ∧ x ≤ 9223372036854775807) ∧ (-9223372036854775808 ≤ y ∧ y ≤ 9223372036854775807) := by
  obtain ⟨cs, rfl, hsz⟩ := okWide_array ht hv
  obtain ⟨fuel, hf⟩ := h
  obtain ⟨xs, m, _, ex, hl, hxl, hel⟩ := DataW.trod_array ht hf
  rw [hct] at hsz
  have key : ∀ i, i < 2 → ∃ z : Int, (-9223372036854775808 ≤ z ∧ z ≤ 9223372036854775807) ∧ cs[i]? = some (.int .i64 z) := by
    intro i hi
    have h1 := hel i hi
    obtain ⟨y, hy⟩ : ∃ y, xs[i]? = some y := ⟨xs[i]'(by omega), List.getElem?_eq_getElem (by omega)⟩
    rw [hce, Nat.mul_one, hy] at h1
    obtain ⟨z, hc, _, hw⟩ := DataW.trod_int he h1
    have hb := i64_bd hw
    refine ⟨z, hb, ?_⟩
    have h2 := congrArg (·[0]?) hc
    simp only [List.getElem?_take, List.getElem?_drop, Nat.add_zero, List.getElem?_cons_zero] at h2
    simpa [Value.cells] using h2
  obtain ⟨x, hx, h0⟩ := key 0 (by omega)
  obtain ⟨y, hy, h1⟩ := key 1 (by omega)
  refine ⟨x, y, ?_, hx, hy⟩
  congr 1
  apply Array.ext
  · simp [hsz]
  · intro i hi1 hi2
    have hi : i < 2 := by omega
    match i, hi with
    | 0, _ => exact (Array.getElem?_eq_some_iff.1 h0).2
    | 1, _ => exact (Array.getElem?_eq_some_iff.1 h1).2
end Go.Proofs.YtifepgigkmhdaaaDoor.Bj
/- A slice of bytes that came in, as bytes. -/
namespace Go.Proofs.YtifepgigkmhdaaaDoor.Bo
set_option linter.unusedVariables false
set_option linter.unusedSimpArgs false
set_option maxRecDepth 100000
open Go.ChangeShapes Go.WideShapes Go.ChangeAt Go.RowKit
open Go.Proofs.YtifepgigkmhdaaaDoor.Wu Go.Proofs.YtifepgigkmhdaaaDoor.Sm Go.Proofs.YtifepgigkmhdaaaDoor.Sh Go.Proofs.YtifepgigkmhdaaaDoor.Ba
theorem u8_bd {z : Int} (h : (Lit.int .u8 z).wf = true) : 0 ≤ z ∧ z < 256 := by
  simp [Lit.wf, IntKind.min, IntKind.max, IntKind.signed, IntKind.bits] at h
  omega
theorem src_of_row {w : World} {a : Option Addr} {len cap : Nat} {zs : List Int} (h : (a = none ∧ len = 0 ∧ cap = 0 ∧ zs = []) ∨
      ∃ x, a = some x ∧ len ≤ cap ∧ cap ≤ maxLen ∧ zs.length = cap ∧ (∀ i, i < zs.length → w.cell? (x.add i) = some (.int .u8 (zs.getD i 0))) ∧ ∀ n ∈ zs, (Lit.int .u8 n).wf = true) :
    ∃ L : List Nat, SrcB w a len L ∧ len ≤ cap ∧ cap ≤ 9223372036854775807 ∧ (a = none → len = 0) := by
  rcases h with ⟨rfl, rfl, rfl, rfl⟩ | ⟨⟨b, off, spot⟩, rfl, hl, hm, hz, hcell, hwz⟩
  · exact ⟨[], SrcB.nil w none, Nat.le_refl _, by omega, fun _ => rfl⟩
  · unfold maxLen at hm
    refine ⟨(zs.take len).map Int.toNat, ⟨by simp; omega, ?_, b, off, fun h0 => ?_, fun i hi => ?_⟩, hl, by omega, fun h => by cases h⟩
    · intro x hx
      obtain ⟨z, hz1, rfl⟩ := List.mem_map.1 hx
      have := u8_bd (hwz z (List.mem_of_mem_take hz1))
      omega
    · have hc := hcell 0 (by omega)
      have hspot : spot = none := by simpa [Addr.add] using World.cell?_spot hc
      rw [hspot]
    · have hc0 := hcell 0 (by omega)
      have hspot : spot = none := by simpa [Addr.add] using World.cell?_spot hc0
      subst hspot
      have := hcell i (by omega)
      have e : (⟨b, off, none⟩ : Addr).add i = ⟨b, off + i, none⟩ := by
        by_cases h : i = 0
        · subst h; simp [Addr.add]
        · simp [Addr.add, h]
      rw [e] at this
      rw [this]
      have hi' : i < zs.length := by omega
      have hb := u8_bd (hwz zs[i] (List.getElem_mem hi'))
      have e2 : zs.getD i 0 = zs[i] := by simp [List.getD, hi']
      have e3 : ((zs.take len).map Int.toNat).getD i 0 = zs[i].toNat := by
        simp [List.getD, List.getElem?_take_of_lt hi, hi']
      rw [e2, e3]
      congr 2
      omega
end Go.Proofs.YtifepgigkmhdaaaDoor.Bo
/- Texts of bytes: each is one of numbers; a text turned into a slice of bytes. -/
namespace Go.Proofs.YtifepgigkmhdaaaDoor.Ab
set_option linter.unusedVariables false
set_option linter.unusedSimpArgs false
set_option maxRecDepth 100000
open Go.RowKit
open Go.Proofs.YtifepgigkmhdaaaDoor.Wu Go.Proofs.YtifepgigkmhdaaaDoor.Sm Go.Proofs.YtifepgigkmhdaaaDoor.Sh Go.Proofs.YtifepgigkmhdaaaDoor.Ba Go.Proofs.YtifepgigkmhdaaaDoor.Bp Go.Proofs.YtifepgigkmhdaaaDoor.Bs
theorem strN_of (s : ByteArray) : ∃ L : List Nat, All8 L ∧ s = strN L ∧ L.length = s.size := by
  refine ⟨s.data.toList.map UInt8.toNat, ?_, ?_, by rw [List.length_map, Array.length_toList]; rfl⟩
  · intro x hx
    obtain ⟨y, _, rfl⟩ := List.mem_map.1 hx
    exact y.toNat_lt
  · apply ByteArray.ext
    apply Array.toList_inj.1
    unfold strN
    rw [strOfNums_data]
    simp only [List.map_map]
    rw [show ((fun n : Int => UInt8.ofNat n.toNat) ∘ (fun x : Nat => (x : Int)) ∘ UInt8.toNat) = id from by
      funext y; simp]
    simp
theorem strN_data (L : List Nat) : (strN L).data.toList = L.map UInt8.ofNat := by
  unfold strN
  rw [strOfNums_data, List.map_map]
  congr 1
theorem conv_str (L : List Nat) (h8 : All8 L) (w : World) (hl : L.length ≤ 1000000) :
    ∃ cap w', Sem.run Tryd.prog (convert 9 22 (.string (strN L))) w = .ok (.slice (some ⟨w.heap.size, 0, none⟩) L.length cap) w' ∧ SrcB w' (some ⟨w.heap.size, 0, none⟩) L.length L ∧ L.length ≤ cap ∧ Below w.heap.size w w' ∧ w'.heap.size = w.heap.size + 1 := by
  have hr := Lib.run_convert_string_bytes (P := Tryd.prog) w 9 22 5 (strN L) Tryd.underlying9 Tryd.underlying22 Tryd.underlying5
  have hge := grownCap_ge w (strN L).size 0 5
  rw [strN_size] at hr hge
  refine ⟨_, _, hr, ⟨rfl, h8, w.heap.size, 0, fun _ => rfl, fun i hi => ?_⟩, hge, ?_, Lib.bytesWorld_size _ _ _⟩
  · have h1 := Lib.bytesWorld_cell w 5 (strN L) i (by rw [strN_size]; exact hi)
    rw [Nat.zero_add, h1, strN_data]
    have h2 := all8_getD h8 i
    congr 2
    simp only [List.getD, List.getElem?_map]
    rw [List.getElem?_eq_getElem hi]
    simp
    have : L[i] < 256 := h8 _ (List.getElem_mem hi)
    omega
  · have hd : Below w.heap.size w (w.drew.alloc (.cells (Lib.bytesCells w 5 (strN L)) 5)) := (Below.refl _ _).drew.alloc (Nat.le_refl _) _
    refine ⟨?_, ?_, ?_, ?_, fun k hk => Lib.bytesWorld_at_old w 5 (strN L) k hk⟩
    · rfl
    · rfl
    · rfl
    · rw [Lib.bytesWorld_size]; omega
end Go.Proofs.YtifepgigkmhdaaaDoor.Ab
/- A region that asks the tape for its order, walked in the order of the text: some operations (in one forced order among themselves) yield values that hang on the world; some, behind all of these that stand ahead of them, yield one that hangs on theirs; all others yield one value each. For any program. -/
namespace Go.Proofs.YtifepgigkmhdaaaDoor.Rg
set_option linter.unusedVariables false
set_option linter.unusedSimpArgs false
set_option maxRecDepth 100000
open Go.Proofs.YtifepgigkmhdaaaDoor.Rk
section
variable {P : Program} {ops : Array Oper} {md : Region.Mode} {T : List Value → World → Prop}
/-- The operation yields v in every world of every stage from h on, and keeps the stage. -/
def KeepsF (P : Program) (ops : Array Oper) (T : List Value → World → Prop) (h : List Value) (o : Oper) (v : Value) (a : Act) : Prop :=
  (Region.wanted o (yielded ops a.tmps) = true ∧ ∀ (h' : List Value) (w : World) (K : Value → World → Prop), T (h ++ h') w → (∀ w', T (h ++ h') w' → K v w') → kUpon P K ((execOp a.eval o).run P w)) ∨
  (Region.wanted o (yielded ops a.tmps) = false ∧ v = undef)
theorem KeepsF.up {h : List Value} {o : Oper} {v : Value} {a : Act} (hy : KeepsF P ops T h o v a) (u : Value) : KeepsF P ops T (h ++ [u]) o v a := by
  rcases hy with ⟨h1, h2⟩ | h
  · refine .inl ⟨h1, fun h' w K hT hK => ?_⟩
    rw [List.append_assoc] at hT
    refine h2 ([u] ++ h') w K hT (fun w' hT' => hK w' ?_)
    rw [List.append_assoc]; exact hT'
  · exact .inr h
theorem KeepsF.all {h : List Value} {o : Oper} {v : Value} {a : Act} (hy : KeepsF P ops T [] o v a) : KeepsF P ops T h o v a := by
  rcases hy with ⟨h1, h2⟩ | h
  · exact .inl ⟨h1, fun h' w K hT hK => h2 (h ++ h') w K hT hK⟩
  · exact .inr h
/-- The operation leads from this stage to the next one, whatever it yields (of the kind V). -/
def KeepsD (P : Program) (ops : Array Oper) (T : List Value → World → Prop) (h : List Value) (V : Value → Prop) (o : Oper) (a : Act) : Prop :=
  Region.wanted o (yielded ops a.tmps) = true ∧ (∃ v, V v) ∧ ∀ (w : World) (K : Value → World → Prop), T h w → (∀ v w', V v → T (h ++ [v]) w' → K v w') → kUpon P K ((execOp a.eval o).run P w)
theorem KeepsF.of_same {h : List Value} {o : Oper} {v : Value} {a a' : Act} (hy : KeepsF P ops T h o v a) (he : execOp a'.eval o = execOp a.eval o)
    (hw : Region.wanted o (yielded ops a'.tmps) = Region.wanted o (yielded ops a.tmps)) : KeepsF P ops T h o v a' := by
  unfold KeepsF at *
  rw [he, hw]
  exact hy
theorem KeepsD.of_same {h : List Value} {V : Value → Prop} {o : Oper} {a a' : Act} (hy : KeepsD P ops T h V o a) (he : execOp a'.eval o = execOp a.eval o)
    (hw : Region.wanted o (yielded ops a'.tmps) = Region.wanted o (yielded ops a.tmps)) : KeepsD P ops T h V o a' := by
  unfold KeepsD at *
  rw [he, hw]
  exact hy
/-- In whatever order; 'c k' is the value of the k-th operation; 'some none', if it hangs on those that hang on the world; none, if it hangs on the world itself. -/
def wpAnyD (P : Program) (md : Region.Mode) (ops : Array Oper) (T : List Value → World → Prop) (c : Nat → Option (Option Value)) (Q : Act → List Value → Prop) : Nat → Array Bool → Act → List Value → Prop
  | 0, listed, a, h => Region.ready md ops listed = [] ∧ Q a h
  | fuel + 1, listed, a, h => (Region.ready md ops listed = [] → Q a h) ∧
      ∀ i ∈ Region.ready md ops listed, ∀ o, ops[i]? = some o →
        (∀ v, c i = some (some v) → KeepsF P ops T [] o v a ∧ wpAnyD P md ops T c Q fuel (listed.setIfInBounds i true) (a.put o.dst v) h) ∧
        (c i = some none → ∃ v, KeepsF P ops T h o v a ∧ wpAnyD P md ops T c Q fuel (listed.setIfInBounds i true) (a.put o.dst v) h) ∧
        (c i = none → ∃ V : Value → Prop, KeepsD P ops T h V o a ∧ ∀ v, V v → wpAnyD P md ops T c Q fuel (listed.setIfInBounds i true) (a.put o.dst v) (h ++ [v]))
theorem wpAny_of_D {c : Nat → Option (Option Value)} {Q : Act → List Value → Prop} {Q' : Exit → Act → World → Prop} (hQ : ∀ a h, Q a h → ∀ w, T h w → Q' .normal a w) :
    ∀ (fuel : Nat) (listed : Array Bool) (a : Act) (h : List Value) (w : World), T h w → wpAnyD P md ops T c Q fuel listed a h → wpAny P md ops Q' fuel listed a w
  | 0, listed, a, h, w, hS, H => ⟨H.1, hQ a h H.2 w hS⟩
  | fuel + 1, listed, a, h, w, hS, H => by
    refine ⟨fun h0 => hQ a h (H.1 h0) w hS, fun i hi => ?_⟩
    unfold wpOp
    cases ho : ops[i]? with
    | none =>
      obtain ⟨_, o, hoo, _⟩ := mem_ready.1 hi
      rw [ho] at hoo; cases hoo
    | some o =>
      obtain ⟨hF, hG, hD⟩ := H.2 i hi o ho
      have both : ∀ v, KeepsF P ops T h o v a → wpAnyD P md ops T c Q fuel (listed.setIfInBounds i true) (a.put o.dst v) h → (if Region.wanted o (yielded ops a.tmps) = true then o.wp P a w (wpAny P md ops Q' fuel (listed.setIfInBounds i true)) Q' ∨ (o.asks P a w ∧ LetsOut Q') else wpAny P md ops Q' fuel (listed.setIfInBounds i true) (a.put o.dst undef) w) := by
        intro v hk hn
        have next : ∀ w', T h w' → wpAny P md ops Q' fuel (listed.setIfInBounds i true) (a.put o.dst v) w' := fun w' hS' => wpAny_of_D hQ fuel _ _ h w' hS' hn
        rcases hk with ⟨hw, hk⟩ | ⟨hw, rfl⟩
        · simp only [hw, if_true]
          refine Or.inl ?_
          have h1 := hk [] w (fun x w' => x = v ∧ T h w') (by rw [List.append_nil]; exact hS) (fun w' hS' => ⟨rfl, by rw [List.append_nil] at hS'; exact hS'⟩)
          unfold Oper.wp
          generalize (execOp a.eval o).run P w = r at h1
          cases r with
          | ok n w1 =>
            cases n <;> simp only [kUpon] at h1
            case value x => obtain ⟨rfl, h2⟩ := h1; exact next _ h2
            case skip => obtain ⟨rfl, h2⟩ := h1; exact next _ h2
            case enter f args =>
              show Calls P f args w1 _
              refine h1.mono fun e w2 he => ?_
              cases e with
              | returned x => obtain ⟨rfl, h2⟩ := he; exact next _ h2
              | panicked c => exact he.elim
              | outgrown => exact he.elim
          | halt x w1 => simp only [kUpon] at h1
        · simp only [hw, Bool.false_eq_true, if_false]
          exact next w hS
      cases hc : c i with
      | some ov =>
        cases ov with
        | some v =>
          obtain ⟨hk, hn⟩ := hF v hc
          exact both v hk.all hn
        | none =>
          obtain ⟨v, hk, hn⟩ := hG hc
          exact both v hk hn
      | none =>
        obtain ⟨V, ⟨hw, _, hk⟩, hn⟩ := hD hc
        have next : ∀ v w', V v ∧ T (h ++ [v]) w' → wpAny P md ops Q' fuel (listed.setIfInBounds i true) (a.put o.dst v) w' := fun v w' hS' => wpAny_of_D hQ fuel _ _ (h ++ [v]) w' hS'.2 (hn v hS'.1)
        simp only [hw, if_true]
        refine Or.inl ?_
        have h1 := hk w (fun x w' => V x ∧ T (h ++ [x]) w') hS (fun v w' hv hS' => ⟨hv, hS'⟩)
        unfold Oper.wp
        generalize (execOp a.eval o).run P w = r at h1
        cases r with
        | ok n w1 =>
          cases n <;> simp only [kUpon] at h1
          case value x => exact next _ _ h1
          case skip => exact next _ _ h1
          case enter f args =>
            show Calls P f args w1 _
            refine h1.mono fun e w2 he => ?_
            cases e with
            | returned x => exact next _ _ he
            | panicked c => exact he.elim
            | outgrown => exact he.elim
        | halt x w1 => simp only [kUpon] at h1
/-- Whether an operation waits for another one, by however many others. -/
def waits (md : Region.Mode) (ops : Array Oper) (i : Nat) : Nat → Nat → Bool
  | 0, _ => false
  | f + 1, j => match ops[j]? with
    | none => false
    | some o => o.after.any fun e => Region.binds md e && (e.on == i || waits md ops i f e.on)
/-- What is done has all done that it waits for. -/
def Closed (md : Region.Mode) (ops : Array Oper) (listed : Array Bool) : Prop :=
  ∀ k o, listed.getD k false = true → ops[k]? = some o → ∀ e ∈ o.after, Region.binds md e = true → listed.getD e.on false = true
theorem getD_both {listed : Array Bool} {i : Nat} (h : listed.getD i true = false) : listed.getD i false = false := by
  rcases Nat.lt_or_ge i listed.size with h' | h'
  · simpa [h'] using h
  · simp [Array.getElem?_eq_none h'] at h
theorem Closed.set {listed : Array Bool} {j : Nat} (hc : Closed md ops listed) (hj : j ∈ Region.ready md ops listed) : Closed md ops (listed.setIfInBounds j true) := by
  obtain ⟨hjun, oj, hoj, hall⟩ := mem_ready.1 hj
  have mono : ∀ x, listed.getD x false = true → (listed.setIfInBounds j true).getD x false = true := by
    intro x hx
    by_cases hxj : j = x
    · subst hxj
      rw [getD_both hjun] at hx; cases hx
    · rw [getD_set_ne false hxj]; exact hx
  intro k o hk ho e he hb
  by_cases hkj : j = k
  · subst hkj
    obtain rfl := Option.some.inj (hoj.symm.trans ho)
    exact mono _ (hall e he hb)
  · rw [getD_set_ne false hkj] at hk
    exact mono _ (hc k o hk ho e he hb)
theorem waits_not {listed : Array Bool} {i : Nat} (hc : Closed md ops listed) (hi : listed.getD i true = false) : ∀ f j o, ops[j]? = some o → waits md ops i f j = true → ¬ (∀ e ∈ o.after, Region.binds md e = true → listed.getD e.on false = true)
  | 0, j, o, ho, hw, _ => by simp [waits] at hw
  | f + 1, j, o, ho, hw, hall => by
    simp only [waits, ho, Array.any_eq_true', Bool.and_eq_true, Bool.or_eq_true, beq_iff_eq] at hw
    obtain ⟨e, he, hb, h⟩ := hw
    have hl := hall e he hb
    rcases h with h | h
    · rw [h, getD_both hi] at hl; cases hl
    · cases hoe : ops[e.on]? with
      | none =>
        cases f with
        | zero => simp [waits] at h
        | succ f => simp [waits, hoe] at h
      | some oe => exact waits_not hc hi f e.on oe hoe h (fun e' he' hb' => hc e.on oe hl hoe e' he' hb')
section
variable {c : Nat → Option (Option Value)} {Q : Act → List Value → Prop} {i : Nat} {oi : Oper}
/-- One of a known value can be taken first; 'p' is the stage from which on it has it. -/
theorem firstF {v : Value} (late : Bool) (hi : ops[i]? = some oi) (hci : c i = some (if late then none else some v)) (hsel : ∀ (j : Nat) (o : Oper) cs b, ops[j]? = some o → o.op ≠ .select cs b) :
    ∀ (fuel : Nat) (listed : Array Bool) (a : Act) (h : List Value),
      (∀ j oj, ops[j]? = some oj → j ≠ i → listed.getD j true = false → (∀ e ∈ oj.after, Region.binds md e = true → e.on ≠ i) → oi.apart ops oj = true) →
      i ∈ Region.ready md ops listed → KeepsF P ops T (if late then h else []) oi v a →
      wpAnyD P md ops T c Q fuel (listed.setIfInBounds i true) (a.put oi.dst v) h → wpAnyD P md ops T c Q (fuel + 1) listed a h := by
  intro fuel
  have atI : ∀ (f : Nat) (listed : Array Bool) (a : Act) (h : List Value), KeepsF P ops T (if late then h else []) oi v a → wpAnyD P md ops T c Q f (listed.setIfInBounds i true) (a.put oi.dst v) h →
      (∀ u, c i = some (some u) → KeepsF P ops T [] oi u a ∧ wpAnyD P md ops T c Q f (listed.setIfInBounds i true) (a.put oi.dst u) h) ∧
      (c i = some none → ∃ u, KeepsF P ops T h oi u a ∧ wpAnyD P md ops T c Q f (listed.setIfInBounds i true) (a.put oi.dst u) h) ∧
      (c i = none → ∃ V : Value → Prop, KeepsD P ops T h V oi a ∧ ∀ u, V u → wpAnyD P md ops T c Q f (listed.setIfInBounds i true) (a.put oi.dst u) (h ++ [u])) := by
    intro f listed a h hy H
    refine ⟨fun u hu => ?_, fun hn => ?_, fun hn => by rw [hci] at hn; cases hn⟩
    · cases late with
      | true => rw [hci] at hu; simp at hu
      | false =>
        rw [hci] at hu
        simp at hu
        subst hu
        exact ⟨hy, H⟩
    · cases late with
      | true => exact ⟨v, hy, H⟩
      | false => rw [hci] at hn; simp at hn
  induction fuel with
  | zero =>
    intro listed a h _ hr hy H
    refine ⟨fun h => (by rw [h] at hr; cases hr), fun j hj oj hoj => ?_⟩
    by_cases hji : j = i
    · subst hji
      obtain rfl := Option.some.inj (hi.symm.trans hoj)
      exact atI 0 listed a h hy H
    · have := ready_mono hj hji
      rw [H.1] at this
      cases this
  | succ fuel ih =>
    intro listed a h hfree hr hy H
    refine ⟨fun h => (by rw [h] at hr; cases hr), fun j hj oj hoj => ?_⟩
    by_cases hji : j = i
    · subst hji
      obtain rfl := Option.some.inj (hi.symm.trans hoj)
      exact atI (fuel + 1) listed a h hy H
    · obtain ⟨hF, hG, hD⟩ := H.2 j (ready_mono hj hji) oj hoj
      obtain ⟨hjun, oj', hoj', hall⟩ := mem_ready.1 hj
      obtain rfl := Option.some.inj (hoj.symm.trans hoj')
      have hnot : ∀ e ∈ oj.after, Region.binds md e = true → e.on ≠ i := fun e he hb heq => by
        have h1 := hall e he hb
        rw [heq, getD_both (mem_ready.1 hr).1] at h1
        cases h1
      have hap := hfree j oj hoj hji hjun hnot
      obtain ⟨a1, a2, a3⟩ := Oper.apart_spec hap
      have hsi := fun cs b => hsel i oi cs b hi
      have hsj := fun cs b => hsel j oj cs b hoj
      have hfree' : ∀ k ok, ops[k]? = some ok → k ≠ i → (listed.setIfInBounds j true).getD k true = false →
          (∀ e ∈ ok.after, Region.binds md e = true → e.on ≠ i) → oi.apart ops ok = true := fun k ok hk hki hun hno => by
        refine hfree k ok hk hki ?_ hno
        by_cases hjk : j = k
        · subst hjk; exact hjun
        · rw [getD_set_ne true hjk] at hun; exact hun
      refine ⟨fun u hu => ?_, fun hn => ?_, fun hn => ?_⟩
      · obtain ⟨hk, hnx⟩ := hF u hu
        refine ⟨hk.of_same (execOp_put oj hsj a oi.dst v a1).symm (wanted_put oj a oi.dst v a1).symm, ?_⟩
        refine ih (listed.setIfInBounds j true) (a.put oj.dst u) h hfree' (ready_mono hr (Ne.symm hji)) (hy.of_same (execOp_put oi hsi a oj.dst u a3) (wanted_put oi a oj.dst u a3)) ?_
        rw [Array.setIfInBounds_comm _ _ hji, ← Act.put_comm a v u a2]
        exact hnx
      · obtain ⟨u, hk, hnx⟩ := hG hn
        refine ⟨u, hk.of_same (execOp_put oj hsj a oi.dst v a1).symm (wanted_put oj a oi.dst v a1).symm, ?_⟩
        refine ih (listed.setIfInBounds j true) (a.put oj.dst u) h hfree' (ready_mono hr (Ne.symm hji)) (hy.of_same (execOp_put oi hsi a oj.dst u a3) (wanted_put oi a oj.dst u a3)) ?_
        rw [Array.setIfInBounds_comm _ _ hji, ← Act.put_comm a v u a2]
        exact hnx
      · obtain ⟨V, hk, hnx⟩ := hD hn
        refine ⟨V, hk.of_same (execOp_put oj hsj a oi.dst v a1).symm (wanted_put oj a oi.dst v a1).symm, fun u hu => ?_⟩
        have hy2 : KeepsF P ops T (if late then h ++ [u] else []) oi v a := by
          cases late with
          | true => exact hy.up u
          | false => exact hy
        refine ih (listed.setIfInBounds j true) (a.put oj.dst u) (h ++ [u]) hfree' (ready_mono hr (Ne.symm hji)) (hy2.of_same (execOp_put oi hsi a oj.dst u a3) (wanted_put oi a oj.dst u a3)) ?_
        rw [Array.setIfInBounds_comm _ _ hji, ← Act.put_comm a v u a2]
        exact hnx u hu
theorem firstD {V : Value → Prop} (hi : ops[i]? = some oi) (hci : c i = none) (hsel : ∀ (j : Nat) (o : Oper) cs b, ops[j]? = some o → o.op ≠ .select cs b) :
    ∀ (fuel : Nat) (listed : Array Bool) (a : Act) (h : List Value), Closed md ops listed →
      (∀ j, (∀ v, c j ≠ some (some v)) → j ≠ i → listed.getD j true = false → ∃ f, waits md ops i f j = true) →
      (∀ j oj, ops[j]? = some oj → j ≠ i → listed.getD j true = false → (∀ e ∈ oj.after, Region.binds md e = true → e.on ≠ i) → oi.apart ops oj = true) →
      i ∈ Region.ready md ops listed → KeepsD P ops T h V oi a →
      (∀ v, V v → wpAnyD P md ops T c Q fuel (listed.setIfInBounds i true) (a.put oi.dst v) (h ++ [v])) → wpAnyD P md ops T c Q (fuel + 1) listed a h := by
  intro fuel
  induction fuel with
  | zero =>
    intro listed a h _ _ _ hr hy H
    refine ⟨fun h => (by rw [h] at hr; cases hr), fun j hj oj hoj => ?_⟩
    by_cases hji : j = i
    · subst hji
      obtain rfl := Option.some.inj (hi.symm.trans hoj)
      exact ⟨fun u hu => absurd (hci.symm.trans hu) (fun e => by cases e), fun hu => absurd (hci.symm.trans hu) (fun e => by cases e), fun _ => ⟨V, hy, H⟩⟩
    · have := ready_mono hj hji
      obtain ⟨v0, hv0⟩ := hy.2.1
      rw [(H v0 hv0).1] at this
      cases this
  | succ fuel ih =>
    intro listed a h hcl hch hfree hr hy H
    refine ⟨fun h => (by rw [h] at hr; cases hr), fun j hj oj hoj => ?_⟩
    by_cases hji : j = i
    · subst hji
      obtain rfl := Option.some.inj (hi.symm.trans hoj)
      exact ⟨fun u hu => absurd (hci.symm.trans hu) (fun e => by cases e), fun hu => absurd (hci.symm.trans hu) (fun e => by cases e), fun _ => ⟨V, hy, H⟩⟩
    · obtain ⟨hjun, oj', hoj', hall⟩ := mem_ready.1 hj
      obtain rfl := Option.some.inj (hoj.symm.trans hoj')
      have hiun := (mem_ready.1 hr).1
      have hnot : ∀ e ∈ oj.after, Region.binds md e = true → e.on ≠ i := fun e he hb heq => by
        have h1 := hall e he hb
        rw [heq, getD_both hiun] at h1
        cases h1
      have hap := hfree j oj hoj hji hjun hnot
      obtain ⟨a1, a2, a3⟩ := Oper.apart_spec hap
      have hsi := fun cs b => hsel i oi cs b hi
      have hsj := fun cs b => hsel j oj cs b hoj
      have keepun : ∀ k, (listed.setIfInBounds j true).getD k true = false → listed.getD k true = false := fun k hun => by
        by_cases hjk : j = k
        · subst hjk; exact hjun
        · rw [getD_set_ne true hjk] at hun; exact hun
      have hfree' : ∀ k ok, ops[k]? = some ok → k ≠ i → (listed.setIfInBounds j true).getD k true = false →
          (∀ e ∈ ok.after, Region.binds md e = true → e.on ≠ i) → oi.apart ops ok = true := fun k ok hk hki hun hno => hfree k ok hk hki (keepun k hun) hno
      refine ⟨fun u hu => ?_, fun hn => ?_, fun hn => ?_⟩
      · have hall2 := fun v hv => ((H v hv).2 j (ready_mono hj hji) oj hoj).1 u hu
        obtain ⟨v0, hv0⟩ := hy.2.1
        refine ⟨(hall2 v0 hv0).1.of_same (execOp_put oj hsj a oi.dst v0 a1).symm (wanted_put oj a oi.dst v0 a1).symm, ?_⟩
        refine ih (listed.setIfInBounds j true) (a.put oj.dst u) h (hcl.set hj) (fun k hk hki hun => hch k hk hki (keepun k hun)) hfree' (ready_mono hr (Ne.symm hji)) (hy.of_same (execOp_put oi hsi a oj.dst u a3) (wanted_put oi a oj.dst u a3)) (fun v hv => ?_)
        rw [Array.setIfInBounds_comm _ _ hji, ← Act.put_comm a v u a2]
        exact (hall2 v hv).2
      · obtain ⟨f, hw⟩ := hch j (fun v hv => by rw [hn] at hv; cases hv) hji hjun
        exact absurd hall (waits_not hcl hiun f j oj hoj hw)
      · obtain ⟨f, hw⟩ := hch j (fun v hv => by rw [hn] at hv; cases hv) hji hjun
        exact absurd hall (waits_not hcl hiun f j oj hoj hw)
end
/-- The walk in the order of the text. -/
def wpLexD (P : Program) (ops : Array Oper) (T : List Value → World → Prop) (Q : Act → List Value → Prop) : List Oper → List (Option (Option Value)) → Act → List Value → Prop
  | [], _, a, h => Q a h
  | o :: l, some (some v) :: cs, a, h => KeepsF P ops T [] o v a ∧ wpLexD P ops T Q l cs (a.put o.dst v) h
  | o :: l, some none :: cs, a, h => ∃ v, KeepsF P ops T h o v a ∧ wpLexD P ops T Q l cs (a.put o.dst v) h
  | o :: l, none :: cs, a, h => ∃ V : Value → Prop, KeepsD P ops T h V o a ∧ ∀ v, V v → wpLexD P ops T Q l cs (a.put o.dst v) (h ++ [v])
  | _ :: _, [], _, _ => False
/-- Those whose values hang on the world, and those that hang on them, wait for the former that stand ahead of them. -/
def chainD (md : Region.Mode) (ops : Array Oper) (ds gs : List Nat) : Bool :=
  ds.all fun i => gs.all fun j => decide (j ≤ i) || waits md ops i ops.size j
def nones : List (Option (Option Value)) → Nat → List Nat
  | [], _ => []
  | none :: l, k => k :: nones l (k + 1)
  | some _ :: l, k => nones l (k + 1)
def lates : List (Option (Option Value)) → Nat → List Nat
  | [], _ => []
  | none :: l, k => k :: lates l (k + 1)
  | some none :: l, k => k :: lates l (k + 1)
  | some (some _) :: l, k => lates l (k + 1)
theorem nones_mem : ∀ (l : List (Option (Option Value))) (k j : Nat), l[j]? = some none → k + j ∈ nones l k
  | [], k, j, h => by simp at h
  | none :: l, k, 0, h => by simp [nones]
  | none :: l, k, j + 1, h => by
    have := nones_mem l (k + 1) j (by simpa using h)
    rw [nones]
    exact List.mem_cons_of_mem _ (by rwa [show k + (j + 1) = k + 1 + j by omega])
  | some _ :: l, k, 0, h => by simp at h
  | some _ :: l, k, j + 1, h => by
    have := nones_mem l (k + 1) j (by simpa using h)
    rw [nones]
    rwa [show k + (j + 1) = k + 1 + j by omega]
theorem lates_mem : ∀ (l : List (Option (Option Value))) (k j : Nat) (x : Option (Option Value)), l[j]? = some x → (∀ v, x ≠ some (some v)) → k + j ∈ lates l k
  | [], k, j, x, h, _ => by simp at h
  | none :: l, k, 0, x, h, _ => by simp [lates]
  | none :: l, k, j + 1, x, h, hx => by
    have := lates_mem l (k + 1) j x (by simpa using h) hx
    rw [lates]
    exact List.mem_cons_of_mem _ (by rwa [show k + (j + 1) = k + 1 + j by omega])
  | some none :: l, k, 0, x, h, _ => by simp [lates]
  | some none :: l, k, j + 1, x, h, hx => by
    have := lates_mem l (k + 1) j x (by simpa using h) hx
    rw [lates]
    exact List.mem_cons_of_mem _ (by rwa [show k + (j + 1) = k + 1 + j by omega])
  | some (some v) :: l, k, 0, x, h, hx => by
    simp at h
    exact absurd h.symm (hx v)
  | some (some _) :: l, k, j + 1, x, h, hx => by
    have := lates_mem l (k + 1) j x (by simpa using h) hx
    rw [lates]
    rwa [show k + (j + 1) = k + 1 + j by omega]
theorem lexD {c : Nat → Option (Option Value)} {Q : Act → List Value → Prop} (hs : Region.noSelect ops = true) (hch : ∀ i j, c i = none → (∀ v, c j ≠ some (some v)) → i < j → ∃ f, waits md ops i f j = true) :
    ∀ (l : List Oper) (cs : List (Option (Option Value))) (k : Nat) (listed : Array Bool) (a : Act) (h : List Value), (∀ j, l[j]? = ops[k + j]?) → (∀ j x, cs[j]? = some x → c (k + j) = x) →
    Closed md ops listed → (∀ j, j < k → listed.getD j true = true) →
    Region.lexFrom md ops l.length k listed = true → wpLexD P ops T Q l cs a h → wpAnyD P md ops T c Q l.length listed a h
  | [], _, _, _, _, _, _, _, _, _, hB, H => ⟨by simpa [Region.lexFrom] using hB, by simpa [wpLexD] using H⟩
  | o :: l, [], _, _, _, _, _, _, _, _, _, H => by simp [wpLexD] at H
  | o :: l, x :: cs, k, listed, a, h, hl, hcs, hcl, hlt, hB, H => by
    have h0 : ops[k]? = some o := by simpa using (hl 0).symm
    have hck : c k = x := by simpa using hcs 0 x (by simp)
    simp only [List.length_cons, Region.lexFrom, Bool.and_eq_true] at hB
    obtain ⟨⟨hr, hf⟩, hB'⟩ := hB
    have hr' : k ∈ Region.ready md ops listed := by simpa using hr
    have hl' : ∀ j, l[j]? = ops[k + 1 + j]? := fun j => by have := hl (j + 1); simpa [Nat.add_assoc, Nat.add_comm 1 j] using this
    have hcs' : ∀ j y, cs[j]? = some y → c (k + 1 + j) = y := fun j y hy => by
      have := hcs (j + 1) y (by simpa using hy)
      rwa [show k + 1 + j = k + (j + 1) by omega]
    have hlt' : ∀ j, j < k + 1 → (listed.setIfInBounds k true).getD j true = true := fun j hj => by
      by_cases e : k = j
      · subst e
        rcases Nat.lt_or_ge k listed.size with h' | h'
        · simp [h']
        · simp [h']
      · rw [getD_set_ne true e]; exact hlt j (by omega)
    match x, hck, H with
    | some (some v), hck, H =>
      obtain ⟨hy, hK⟩ := H
      exact firstF false h0 hck (Region.noSelect_spec hs) l.length listed a h (Region.free_spec h0 hf) hr' hy (lexD hs hch l cs (k + 1) _ _ h hl' hcs' (hcl.set hr') hlt' hB' hK)
    | some none, hck, H =>
      obtain ⟨v, hy, hK⟩ := H
      exact firstF (v := v) true h0 hck (Region.noSelect_spec hs) l.length listed a h (Region.free_spec h0 hf) hr' hy (lexD hs hch l cs (k + 1) _ _ h hl' hcs' (hcl.set hr') hlt' hB' hK)
    | none, hck, H =>
      obtain ⟨V, hy, hK⟩ := H
      refine firstD h0 hck (Region.noSelect_spec hs) l.length listed a h hcl (fun j hj hjk hun => ?_) (Region.free_spec h0 hf) hr' hy (fun v hv => lexD hs hch l cs (k + 1) _ _ (h ++ [v]) hl' hcs' (hcl.set hr') hlt' hB' (hK v hv))
      refine hch k j hck hj ?_
      rcases Nat.lt_or_ge k j with h1 | h1
      · exact h1
      · have := hlt j (by omega)
        rw [hun] at this; cases this
/-- The region. -/
theorem wp_region_g {id : Nat} {Q : Exit → Act → World → Prop} {a : Act} {w : World} {l : List Oper} (T : List Value → World → Prop) (cs : List (Option (Option Value))) (hm : P.follows .mixedOrders = true) (hB : Region.lexB .any l.toArray = true) (ds gs : List Nat) (hds : nones cs 0 = ds) (hgs : lates cs 0 = gs) (hD : chainD .any l.toArray ds gs = true) (hS : T [] w.drew)
    (h : wpLexD P l.toArray T (fun a' h' => ∀ w', T h' w' → Q .normal a' w') l cs a []) : (Code.region id l.toArray true).wp P Q a w := by
  simp only [Region.lexB, Bool.and_eq_true] at hB
  refine wp_region_any hm (wpAny_of_D (T := T) (c := fun k => (cs[k]?).getD (some (some undef))) (Q := fun a' h' => ∀ w', T h' w' → Q .normal a' w') (fun _ _ h => h) _ _ _ [] _ hS ?_)
  have hch : ∀ i j, (cs[i]?).getD (some (some undef)) = none → (∀ v, (cs[j]?).getD (some (some undef)) ≠ some (some v)) → i < j → ∃ f, waits .any l.toArray i f j = true := by
    intro i j hi hj hij
    have mi : i ∈ ds := by
      rw [← hds]
      cases hx : cs[i]? with
      | none => rw [hx] at hi; cases hi
      | some x =>
        rw [hx] at hi
        have := nones_mem cs 0 i (by rw [hx]; exact congrArg some hi)
        rwa [Nat.zero_add] at this
    have mj : j ∈ gs := by
      rw [← hgs]
      cases hx : cs[j]? with
      | none => rw [hx] at hj; exact absurd rfl (hj undef)
      | some x =>
        rw [hx] at hj
        have := lates_mem cs 0 j x hx hj
        rwa [Nat.zero_add] at this
    unfold chainD at hD
    have h1 := List.all_eq_true.1 (List.all_eq_true.1 hD i mi) j mj
    simp only [Bool.or_eq_true, decide_eq_true_eq] at h1
    rcases h1 with h1 | h1
    · omega
    · exact ⟨_, h1⟩
  have := lexD (md := .any) (T := T) hB.1 hch l cs 0 (Array.replicate l.toArray.size false) a [] (by simp) (fun j x hx => by simp [hx]) (fun k o hk => by simp [Array.getElem?_replicate] at hk; split at hk <;> simp at hk) (fun j hj => by omega) (by simpa using hB.2) h
  simpa using this
/-- One value, at any stage. -/
theorem gF_step {Q : Act → List Value → Prop} {o : Oper} {l : List Oper} {v : Value} {cs : List (Option (Option Value))} {a : Act} {h : List Value} (hw : Region.wanted o (yielded ops a.tmps) = true)
    (hk : ∀ (h : List Value) (w : World) (K : Value → World → Prop), T h w → (∀ w', T h w' → K v w') → kUpon P K ((execOp a.eval o).run P w)) (hn : wpLexD P ops T Q l cs (a.put o.dst v) h) : wpLexD P ops T Q (o :: l) (some (some v) :: cs) a h := ⟨.inl ⟨hw, fun h' w K hT hK => hk h' w K hT hK⟩, hn⟩
theorem gF_not {Q : Act → List Value → Prop} {o : Oper} {l : List Oper} {cs : List (Option (Option Value))} {a : Act} {h : List Value} (hw : Region.wanted o (yielded ops a.tmps) = false) (hn : wpLexD P ops T Q l cs (a.put o.dst undef) h) : wpLexD P ops T Q (o :: l) (some (some undef) :: cs) a h := ⟨.inr ⟨hw, rfl⟩, hn⟩
/-- A value that hangs on those before, from this stage on. -/
theorem gG_step {Q : Act → List Value → Prop} {o : Oper} {l : List Oper} {v : Value} {cs : List (Option (Option Value))} {a : Act} {h : List Value} (hw : Region.wanted o (yielded ops a.tmps) = true)
    (hk : ∀ (h' : List Value) (w : World) (K : Value → World → Prop), T (h ++ h') w → (∀ w', T (h ++ h') w' → K v w') → kUpon P K ((execOp a.eval o).run P w)) (hn : wpLexD P ops T Q l cs (a.put o.dst v) h) : wpLexD P ops T Q (o :: l) (some none :: cs) a h := ⟨v, .inl ⟨hw, hk⟩, hn⟩
theorem gG_not {Q : Act → List Value → Prop} {o : Oper} {l : List Oper} {cs : List (Option (Option Value))} {a : Act} {h : List Value} (hw : Region.wanted o (yielded ops a.tmps) = false) (hn : wpLexD P ops T Q l cs (a.put o.dst undef) h) : wpLexD P ops T Q (o :: l) (some none :: cs) a h := ⟨undef, .inr ⟨hw, rfl⟩, hn⟩
/-- A value that hangs on the world, of the kind V. -/
theorem gD_step {Q : Act → List Value → Prop} {o : Oper} {l : List Oper} {cs : List (Option (Option Value))} {a : Act} {h : List Value} (V : Value → Prop) (hV : ∃ v, V v) (hw : Region.wanted o (yielded ops a.tmps) = true)
    (hk : ∀ (w : World) (K : Value → World → Prop), T h w → (∀ v w', V v → T (h ++ [v]) w' → K v w') → kUpon P K ((execOp a.eval o).run P w)) (hn : ∀ v, V v → wpLexD P ops T Q l cs (a.put o.dst v) (h ++ [v])) : wpLexD P ops T Q (o :: l) (none :: cs) a h := ⟨V, ⟨hw, hV, hk⟩, hn⟩
/-- One whose value is v, at this stage alone. -/
theorem gE_step {Q : Act → List Value → Prop} {o : Oper} {l : List Oper} {v : Value} {cs : List (Option (Option Value))} {a : Act} {h : List Value} (hw : Region.wanted o (yielded ops a.tmps) = true)
    (hk : ∀ (w : World) (K : Value → World → Prop), T h w → (∀ w', T (h ++ [v]) w' → K v w') → kUpon P K ((execOp a.eval o).run P w)) (hn : wpLexD P ops T Q l cs (a.put o.dst v) (h ++ [v])) : wpLexD P ops T Q (o :: l) (none :: cs) a h :=
  ⟨fun x => x = v, ⟨hw, ⟨v, rfl⟩, fun w K hT hK => hk w K hT (fun w' => hK v w' rfl)⟩, fun x hx => by subst hx; exact hn⟩
theorem g_nil {Q : Act → List Value → Prop} {cs : List (Option (Option Value))} {a : Act} {h : List Value} (hq : Q a h) : wpLexD P ops T Q [] cs a h := by simpa [wpLexD] using hq
end
end Go.Proofs.YtifepgigkmhdaaaDoor.Rg
/- Loads and stores of whole rows inside regions that draw their order. -/
namespace Go.Proofs.YtifepgigkmhdaaaDoor.Rx
set_option linter.unusedVariables false
set_option linter.unusedSimpArgs false
open Go.RowKit
open Go.Proofs.YtifepgigkmhdaaaDoor.Rk
theorem kUpon_store_mid {P : Program} {a : Act} {o : Oper} {u : World} {K : Value → World → Prop} (ty : TypeId) (x y : Operand) (ho : o.op = .store ty x y) (b off : Nat) (cells : Array Value) (hx : a.eval x = .pointer (some ⟨b, off, none⟩)) (hy : a.eval y = .agg cells)
    (ht : u.there b off cells.size) (hi : (P.info? ty).map (·.size) = some cells.size) (h1 : cells.all (·.oneCell') = true) (h : K undef (u.setCells b off cells.toList)) : kUpon P K ((execOp a.eval o).run P u) := by
  have hr := run_storeAt_mid (P := P) u b off ty cells ht hi h1
  have e : (execOp a.eval o).run P u = .ok .skip (u.setCells b off cells.toList) := by
    simp [execOp, ho, hx, hy, hr, Result.andThen]
  rw [e]
  exact h
theorem kUpon_load_mid {P : Program} {a : Act} {o : Oper} {u : World} {K : Value → World → Prop} (ty : TypeId) (x : Operand) (ho : o.op = .load ty x) (b off : Nat) (v : Value) (hx : a.eval x = .pointer (some ⟨b, off, none⟩))
    (hr : Sem.run P (loadVar ty ⟨b, off, none⟩) u = .ok v u) (h : K v u) : kUpon P K ((execOp a.eval o).run P u) := by
  have e : (execOp a.eval o).run P u = .ok (.value v) u := by
    simp [execOp, ho, hx, Instr.loadAt, Instr.sureAddr, hr, Result.andThen]
  rw [e]
  exact h
theorem there_all {w : World} {B : Nat} {c : Array Value} {T : TypeId} (h : w.heap[B]? = some (.cells c T (0, 0))) : w.there B 0 c.size := fun j hj => by
  refine ⟨?_, ?_⟩
  · rw [Nat.zero_add, Wu.blk_cell h (x := c[j]) (by rw [Array.getElem?_eq_getElem hj])]; rfl
  · exact Wu.blk_free h
end Go.Proofs.YtifepgigkmhdaaaDoor.Rx
