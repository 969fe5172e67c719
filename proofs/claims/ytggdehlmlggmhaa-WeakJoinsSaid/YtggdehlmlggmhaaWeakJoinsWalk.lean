/- WeakJoins: the walk. -/
import Derived.Test.YtggdehlmlggmhaaWz
import Derived.Test.YtggdehlmlggmhaaWx
import Derived.Deep.RegionHeld3
import Derived.Deep.RegionWith
import Derived.Deep.QuietTactic
import Derived.BigQuiet
namespace Go.Proofs.Ytggdehlmlggmhaa.WeakJoinsW
set_option linter.unusedVariables false
set_option linter.unusedSimpArgs false
open Go.ChangeShapes Go.WideShapes Go.ChangeAt Go.RowKit
open Go.Proofs.Ytggdehlmlggmhaa.Wm Go.Proofs.Ytggdehlmlggmhaa.Wu Go.Proofs.Ytggdehlmlggmhaa.Wk Go.Proofs.Ytggdehlmlggmhaa.Wc Go.Proofs.Ytggdehlmlggmhaa.Wx Go.Proofs.Ytggdehlmlggmhaa.Wy Go.Proofs.Ytggdehlmlggmhaa.Wz

theorem and_low (z : Int) (h : 0 ≤ z) (h' : z < 4294967296) : bits .and .u32 z 65535 = z % 65536 := by
  rw [u32_and _ _ h h' (by omega) (by omega)]
  obtain ⟨Z, rfl⟩ := Int.eq_ofNat_of_zero_le h
  rw [Int.toNat_natCast, show (65535 : Int).toNat = 2 ^ 16 - 1 from rfl, Nat.and_two_pow_sub_one_eq_mod]
  omega
theorem low_join (A B : List Int) : bits .and .u32 (IntKind.u32.wrap (hi A * 65536 + lo A + (hi B * 65536 + lo B))) 65535 = lo (A ++ B) := by
  rw [IntKind.wrap_u32', and_low _ (by omega) (by omega)]
  unfold lo
  rw [sm_append]
  omega

theorem high_join (A B : List Int) (m2 : Nat) (h : B.length = m2) (hm : m2 ≤ 500) :
    bits .and .u32 (IntKind.u32.wrap (IntKind.u32.wrap ((hi A * 65536 + lo A) / 65536 + (hi B * 65536 + lo B) / 65536) + IntKind.u32.wrap (bits .and .u32 (hi A * 65536 + lo A) 65535 * IntKind.u32.wrap (m2 : Int)))) 65535 = hi (A ++ B) := by
  have a1 := lo_nonneg A
  have a2 := lo_lt A
  have a3 := hi_nonneg A
  have a4 := hi_lt A
  have b1 := lo_nonneg B
  have b2 := lo_lt B
  have b3 := hi_nonneg B
  have b4 := hi_lt B
  have e1 : bits .and .u32 (hi A * 65536 + lo A) 65535 = lo A := by rw [and_low _ (by omega) (by omega)]; omega
  have e2 : (hi A * 65536 + lo A) / 65536 = hi A := by omega
  have e3 : (hi B * 65536 + lo B) / 65536 = hi B := by omega
  have e4 : hi (A ++ B) = (hi A + hi B + lo A * m2) % 65536 := by
    unfold hi lo
    rw [pw_append, List.length_append, show ((A.length + B.length : Nat) : Int) - A.length = B.length by omega, show ((A.length + B.length : Nat) : Int) = (A.length : Int) + B.length by omega, pw_add, h]
    have e : sm A % 65536 * (m2 : Int) % 65536 = (m2 : Int) * sm A % 65536 := by rw [Int.mul_comm (m2 : Int), Int.mul_emod, Int.emod_emod_of_dvd _ (Int.dvd_refl _), ← Int.mul_emod]
    omega
  have e5 : lo A * (m2 : Int) ≤ 65535 * (m2 : Int) := Int.mul_le_mul_of_nonneg_right (by omega) (by omega)
  have e6 : 0 ≤ lo A * (m2 : Int) := Int.mul_nonneg a1 (by omega)
  rw [e1, e2, e3, e4]
  simp only [IntKind.wrap_u32']
  rw [show (m2 : Int) % 4294967296 = m2 by omega]
  generalize lo A * (m2 : Int) = p at *
  rw [and_low _ (by omega) (by omega)]
  omega

set_option maxHeartbeats 3200000 in
theorem main_walk (HR : RollsTrue) (a1 a2 : Option Addr) (len1 cap1 m1 len2 cap2 m2 : Nat) (A B : List Int) (w : World) (hl1 : m1 ≤ len1) (hl2 : m2 ≤ len2) (hm1 : m1 ≤ 500) (hm2 : m2 ≤ 500)
    (hif1 : (if (500 : Int) < (len1 : Int) then (500 : Int) else (len1 : Int)) = (m1 : Int)) (hif2 : (if (500 : Int) < (len2 : Int) then (500 : Int) else (len2 : Int)) = (m2 : Int))
    (hlc1 : len1 ≤ cap1) (hlc2 : len2 ≤ cap2) (hcap1 : cap1 ≤ 9223372036854775807) (hcap2 : cap2 ≤ 9223372036854775807) (hn1 : a1 = none → cap1 = 0) (hn2 : a2 = none → cap2 = 0)
    (hA : Src w a1 m1 A) (hB : Src w a2 m2 B) :
    Calls Try.prog 6 #[.slice a1 len1 cap1, .slice a2 len2 cap2] w fun e w' => e = .returned (.bool true) ∧ Below w.heap.size w w' := by
  have HA := hide hA
  have HB := hide hB
  have Hn1 := hide hn1
  have Hn2 := hide hn2
  clear hA hB hn1 hn2
  go_enter Try.func6, Try.ntmps6
  go_wp2_with fail
  refine (HR _).mono ?_
  rintro e w0 ⟨rfl, hb0⟩
  have HB0 := hide hb0
  have HA0 := hide (HA.out.below hb0)
  have HBB0 := hide (HB.out.below hb0)
  clear hb0 HA HB
  go_wp2_with fail
  have hw1 : (0 : Int) ≤ (m1 : Int) := by omega
  have hw2 : (0 : Int) ≤ (m2 : Int) := by omega
  have hw3 : (m1 : Int) ≤ (cap1 : Int) := by omega
  have hw4 : (m2 : Int) ≤ (cap2 : Int) := by omega
  go_quiet (fail)
  have hd : Below w0.heap.size w0 (w0.drewN nq) := below_drewN (Below.refl _ _) nq
  have HA1 := hide (HA0.out.below hd)
  have HB1 := hide (HBB0.out.below hd)
  have HW1 := hide (HB0.out.trans (hd.mono HB0.out.size))
  clear hd HA0 HBB0 HB0 hw1 hw2 hw3 hw4 hif1 hif2
  generalize w0.drewN nq = w1 at *
  go_wp2_with fail
  refine (of_src a1 m1 cap1 A _ HA1.out (by omega)).mono ?_
  rintro e w2 ⟨rfl, hb2⟩
  have HA2 := hide (HA1.out.below hb2)
  have HB2 := hide (HB1.out.below hb2)
  have HW2 := hide (HW1.out.trans (hb2.mono HW1.out.size))
  clear hb2 HA1 HB1 HW1
  go_wp2_with fail
  refine (of_src a2 m2 cap2 B _ HB2.out (by omega)).mono ?_
  rintro e w3 ⟨rfl, hb3⟩
  have HA3 := hide (HA2.out.below hb3)
  have HB3 := hide (HB2.out.below hb3)
  have HW3 := hide (HW2.out.trans (hb3.mono HW2.out.size))
  clear hb3 HA2 HB2 HW2
  -- the two sums' variables, the empty slice
  have hbA := below_new w3 (.cells #[.int .i64 (m1 : Int), .int .u16 (lo A), .int .u16 (hi A)] 26)
  have hbB := below_new (w3.alloc (.cells #[.int .i64 (m1 : Int), .int .u16 (lo A), .int .u16 (hi A)] 26)) (.cells #[.int .i64 (m2 : Int), .int .u16 (lo B), .int .u16 (hi B)] 26)
  have hbC := below_new ((w3.alloc (.cells #[.int .i64 (m1 : Int), .int .u16 (lo A), .int .u16 (hi A)] 26)).alloc (.cells #[.int .i64 (m2 : Int), .int .u16 (lo B), .int .u16 (hi B)] 26)) (.cells #[] 5)
  have hbBC := hbB.trans (hbC.mono (by simp))
  have hbABC := hbA.trans (hbBC.mono (by simp))
  obtain ⟨g4, c4, w4, hrun4, hown4, hgrow4⟩ := append_src _ (w3.heap.size + 1 + 1) (w3.heap.size + 1 + 1) 0 0 [] a1 m1 cap1 A 22
    (by have := World.ownsRow_made (base := w3.heap.size + 1 + 1) (e := 5) (size := 1) ((w3.alloc (.cells #[.int .i64 (m1 : Int), .int .u16 (lo A), .int .u16 (hi A)] 26)).alloc (.cells #[.int .i64 (m2 : Int), .int .u16 (lo B), .int .u16 (hi B)] 26)) #[] 0 (by simp) (by unfold maxLen; omega) rfl; simpa using this) ((HA3.out.below hbABC)) Hn1.out (by omega) (by simp)
  rw [Nat.zero_add] at hrun4 hown4
  rw [List.nil_append] at hown4
  have hW34 : Below (w3.heap.size + 1 + 1) (((w3.alloc (.cells #[.int .i64 (m1 : Int), .int .u16 (lo A), .int .u16 (hi A)] 26)).alloc (.cells #[.int .i64 (m2 : Int), .int .u16 (lo B), .int .u16 (hi B)] 26)).alloc (.cells #[] 5)) w4 :=
    (Below.refl _ _).grown hgrow4 (by simp) (fun k hk => by cases hk; exact Nat.le_refl _)
  have hx4 := below_blk (k := w3.heap.size) hW34 (by omega) (heap_old (heap_2a _ _ _) _)
  have hy4 := below_blk (k := w3.heap.size + 1) hW34 (by omega) (heap_old (heap_2b _ _ _) _)
  have hb34 : Below w3.heap.size w3 w4 := hbABC.trans (hW34.mono (by omega))
  have hsz4 := hW34.size
  simp only [World.size_alloc] at hsz4
  obtain ⟨g5, c5, w5, hrun5, hown5, hgrow5⟩ := append_src w4 (w3.heap.size + 1 + 1) g4 m1 c4 A a2 m2 cap2 B 22 hown4 (HB3.out.below hb34) Hn2.out (by omega) (by omega)
  have hg4 := (hown4.lt g4 rfl).1
  have hW45 : Below (w3.heap.size + 1 + 1) w4 w5 := (Below.refl _ _).grown hgrow5 (by omega) (fun k hk => by cases hk; exact hg4)
  have hx5 := below_blk (k := w3.heap.size) hW45 (by omega) hx4
  have hy5 := below_blk (k := w3.heap.size + 1) hW45 (by omega) hy4
  have hb35 : Below w3.heap.size w3 w5 := hb34.trans (hW45.mono (by omega))
  have HAll := hide (own_src hown5 (fun z hz => (List.mem_append.1 hz).elim (HA3.out.byt z) (HB3.out.byt z)))
  have HX5 := hide hx5
  have HY5 := hide hy5
  have HW5 := hide (HW3.out.trans (hb35.mono HW3.out.size))
  have HlA := hide HA3.out.len
  have HlB := hide HB3.out.len
  have hsz5 : w3.heap.size + 1 < w5.heap.size := heap_lt hy5
  clear hx4 hy4 hx5 hy5 hW34 hW45 hb34 hb35 hbA hbB hbC hbBC hbABC hown4 hown5 hgrow4 hgrow5 hg4 hsz4 HA3 HB3 HW3
  have HR4 := hide hrun4
  have HR5 := hide hrun5
  clear hrun4 hrun5
  go_wp2_with (first
    | (at_builtin; refine wpList_append_run rfl (.tmp 26) (.tmp 27) 22 rfl _ _ _ _ HR4.out rfl rfl ?_)
    | (at_builtin; refine wpList_append_run rfl (.tmp 28) (.tmp 29) 22 rfl _ _ _ _ HR5.out rfl rfl ?_))
  clear HR4 HR5
  refine (of_src _ (m1 + m2) c5 (A ++ B) _ HAll.out (by omega)).mono ?_
  rintro e w6 ⟨rfl, hb6⟩
  have hx6 := below_blk hb6 (by omega) HX5.out
  have hy6 := below_blk hb6 hsz5 HY5.out
  have HX6 := hide hx6
  have HY6 := hide hy6
  have HW6 := hide (HW5.out.trans (hb6.mono HW5.out.size))
  clear hx6 hy6 hb6 HX5 HY5 HW5 HAll hsz5
  go_wp2_with fail
  have hx7 := heap_old HX6.out (.cells #[.int .i64 ((m1 : Int) + (m2 : Int)), .int .u16 (lo (A ++ B)), .int .u16 (hi (A ++ B))] 26)
  have hy7 := heap_old HY6.out (.cells #[.int .i64 ((m1 : Int) + (m2 : Int)), .int .u16 (lo (A ++ B)), .int .u16 (hi (A ++ B))] 26)
  have hz7 := heap_last w6 (.cells #[.int .i64 ((m1 : Int) + (m2 : Int)), .int .u16 (lo (A ++ B)), .int .u16 (hi (A ++ B))] 26)
  have hW7 := HW6.out.alloc HW6.out.size (.cells #[.int .i64 ((m1 : Int) + (m2 : Int)), .int .u16 (lo (A ++ B)), .int .u16 (hi (A ++ B))] 26)
  clear HX6 HY6 HW6
  generalize (w6.alloc (.cells #[.int .i64 ((m1 : Int) + (m2 : Int)), .int .u16 (lo (A ++ B)), .int .u16 (hi (A ++ B))] 26)) = w7 at *
  generalize w6.heap.size = bz at *
  generalize w3.heap.size = bx at *
  have HZ7 := hide hz7
  obtain ⟨e1, e2, e3, -⟩ := blk3 hx7
  obtain ⟨e4, e5, e6, -⟩ := blk3 hy7
  clear hx7 hy7 hz7
  have loA := lo_nonneg A
  have loA' := lo_lt A
  have hiA := hi_nonneg A
  have hiA' := hi_lt A
  have loB := lo_nonneg B
  have loB' := lo_lt B
  have hiB := hi_nonneg B
  have hiB' := hi_lt B
  go_region_held3 (fun u => u.cell? ⟨bx, 0, none⟩ = some (.int .i64 (m1 : Int)) ∧ u.cell? ⟨bx, 1, none⟩ = some (.int .u16 (lo A)) ∧ u.cell? ⟨bx, 2, none⟩ = some (.int .u16 (hi A)) ∧ u.cell? ⟨bx + 1, 0, none⟩ = some (.int .i64 (m2 : Int)) ∧ u.cell? ⟨bx + 1, 1, none⟩ = some (.int .u16 (lo B)) ∧ u.cell? ⟨bx + 1, 2, none⟩ = some (.int .u16 (hi B)) ∧ Below w.heap.size w u ∧ u.heap[bz]? = some (.cells #[.int .i64 ((m1 : Int) + (m2 : Int)), .int .u16 (lo (A ++ B)), .int .u16 (hi (A ++ B))] 26 (0, 0)))
    (first | exact ⟨e1, e2, e3, e4, e5, e6, hW7.drew, HZ7.out⟩ | assumption | (apply keep6h <;> first | assumption | exact Nat.le_refl _))
    (first
      | (go_at_call 12; refine (value_any _ _ _ _ (by omega) (by omega) (by omega) (by omega)).mono ?_; rintro e u ⟨rfl, hu⟩))
  rw [low_join]
  have h8 : u.cell? ⟨bx, 0, none⟩ = some (.int .i64 (m1 : Int)) ∧ u.cell? ⟨bx, 1, none⟩ = some (.int .u16 (lo A)) ∧ u.cell? ⟨bx, 2, none⟩ = some (.int .u16 (hi A)) ∧ u.cell? ⟨bx + 1, 0, none⟩ = some (.int .i64 (m2 : Int)) ∧ u.cell? ⟨bx + 1, 1, none⟩ = some (.int .u16 (lo B)) ∧ u.cell? ⟨bx + 1, 2, none⟩ = some (.int .u16 (hi B)) ∧ Below w.heap.size w u ∧ u.heap[bz]? = some (.cells #[.int .i64 ((m1 : Int) + (m2 : Int)), .int .u16 (lo (A ++ B)), .int .u16 (hi (A ++ B))] 26 (0, 0)) := by assumption
  have H8 := hide h8
  clear h8 e1 e2 e3 e4 e5 e6 HZ7 hW7
  obtain ⟨v8, hv8⟩ : ∃ v8 : World, v8 = u := ⟨u, rfl⟩
  rw [← hv8] at H8 ⊢
  clear hv8
  obtain ⟨e1, e2, e3, e4, e5, e6, hW8, hZ8⟩ := H8.out
  have HZ8 := hide hZ8
  clear hZ8 H8
  go_wp2_with fail
  go_region_held3 (fun u => u.cell? ⟨bx, 0, none⟩ = some (.int .i64 (m1 : Int)) ∧ u.cell? ⟨bx, 1, none⟩ = some (.int .u16 (lo A)) ∧ u.cell? ⟨bx, 2, none⟩ = some (.int .u16 (hi A)) ∧ u.cell? ⟨bx + 1, 0, none⟩ = some (.int .i64 (m2 : Int)) ∧ u.cell? ⟨bx + 1, 1, none⟩ = some (.int .u16 (lo B)) ∧ u.cell? ⟨bx + 1, 2, none⟩ = some (.int .u16 (hi B)) ∧ Below w.heap.size w u ∧ u.heap[bz]? = some (.cells #[.int .i64 ((m1 : Int) + (m2 : Int)), .int .u16 (lo (A ++ B)), .int .u16 (hi (A ++ B))] 26 (0, 0)))
    (first | exact ⟨e1, e2, e3, e4, e5, e6, hW8.drew, HZ8.out⟩ | assumption | (apply keep6h <;> first | assumption | exact Nat.le_refl _))
    (first
      | (go_at_call 12; refine (value_any _ _ _ _ (by omega) (by omega) (by omega) (by omega)).mono ?_; rintro e u ⟨rfl, hu⟩))
  rw [high_join A B m2 HlB.out hm2]
  have h9 : u.cell? ⟨bx, 0, none⟩ = some (.int .i64 (m1 : Int)) ∧ u.cell? ⟨bx, 1, none⟩ = some (.int .u16 (lo A)) ∧ u.cell? ⟨bx, 2, none⟩ = some (.int .u16 (hi A)) ∧ u.cell? ⟨bx + 1, 0, none⟩ = some (.int .i64 (m2 : Int)) ∧ u.cell? ⟨bx + 1, 1, none⟩ = some (.int .u16 (lo B)) ∧ u.cell? ⟨bx + 1, 2, none⟩ = some (.int .u16 (hi B)) ∧ Below w.heap.size w u ∧ u.heap[bz]? = some (.cells #[.int .i64 ((m1 : Int) + (m2 : Int)), .int .u16 (lo (A ++ B)), .int .u16 (hi (A ++ B))] 26 (0, 0)) := by assumption
  have HW9 := hide h9.2.2.2.2.2.2.1
  have HZ9 := hide h9.2.2.2.2.2.2.2
  clear h9 e1 e2 e3 e4 e5 e6 HZ8 hW8
  generalize u = w9 at *
  have f9 := blk3 HZ9.out
  have lo1 := lo_nonneg (A ++ B)
  have lo2 := lo_lt (A ++ B)
  have hi1 := hi_nonneg (A ++ B)
  have hi2 := hi_lt (A ++ B)
  go_wp2_with fail
  refine (value_any _ _ _ _ lo1 lo2 hi1 hi2).mono ?_
  rintro e w10 ⟨rfl, hb10⟩
  have hz10 := below_blk hb10 (heap_lt HZ9.out) HZ9.out
  have HW10 := hide (HW9.out.trans (hb10.mono HW9.out.size))
  have f10 := blk3 hz10
  clear hz10 hb10 HW9 HZ9 f9
  have hor := or_halves (hi (A ++ B)) (lo (A ++ B)) lo1 lo2 hi1 hi2
  go_wp2_with fail
  refine (size_any _ _ _ _).mono ?_
  rintro e w11 ⟨rfl, hb11⟩
  have HW11 := hide (HW10.out.trans (hb11.mono HW10.out.size))
  clear hb11 HW10 f10 hor
  go_wp2
  go_ret
  exact ⟨rfl, HW11.out⟩
end Go.Proofs.Ytggdehlmlggmhaa.WeakJoinsW
