/- bytes.Clone; the Reader's has, Byte, At; a frame's head. -/
import Derived.Test.YtpaijhmbfljfmaaDoorCt
import Derived.Test.YtpaijhmbfljfmaaDoorFa
namespace Go.Proofs.YtpaijhmbfljfmaaDoor.Fc
set_option linter.unusedVariables false
set_option linter.unusedSimpArgs false
set_option maxRecDepth 100000
open Go.ChangeShapes Go.WideShapes Go.ChangeAt Go.RowKit
open Go.Proofs.YtpaijhmbfljfmaaDoor.Wu Go.Proofs.YtpaijhmbfljfmaaDoor.Sm Go.Proofs.YtpaijhmbfljfmaaDoor.Sh Go.Proofs.YtpaijhmbfljfmaaDoor.Ba Go.Proofs.YtpaijhmbfljfmaaDoor.Bp Go.Proofs.YtpaijhmbfljfmaaDoor.Bq Go.Proofs.YtpaijhmbfljfmaaDoor.Bz Go.Proofs.YtpaijhmbfljfmaaDoor.Cm Go.Proofs.YtpaijhmbfljfmaaDoor.Cn Go.Proofs.YtpaijhmbfljfmaaDoor.Cr Go.Proofs.YtpaijhmbfljfmaaDoor.Cs Go.Proofs.YtpaijhmbfljfmaaDoor.Rk Go.Proofs.YtpaijhmbfljfmaaDoor.Ct Go.Proofs.YtpaijhmbfljfmaaDoor.Fa
attribute [local go_sem] kUpon_value kUpon_skip kUpon_enter
theorem some_nil (ad : Addr) (m c : Nat) (u : World) : Sem.run Tryd.prog (binOp BinOp.eql 31 (.slice (some ad) m c) (.slice none 0 0)) u = .ok (.bool false) u := by kernel_rfl
/-- bytes.Clone of what is not nil. -/
theorem clone_some (ad : Addr) (m c : Nat) (L : List Nat) (w : World) (hs : SrcB w (some ad) m L) (hm : m ≤ 70368744177664) :
    Calls Tryd.prog 90 #[.slice (some ad) m c] w fun e w' => ∃ g cap, e = .returned (.slice (some ⟨g, 0, none⟩) m cap) ∧ w.heap.size ≤ g ∧ Dst w' g m cap L ∧ Below w.heap.size w w' := by
  have HS := hide (hs.below (below_new w (.cells #[] 5)))
  clear hs
  have HD0 : Hid (Dst (w.alloc (.cells #[] 5)) w.heap.size 0 0 []) := hide (dst_new w [] #[] 5 (0, 0) rfl (by intro x hx; cases hx) (by simp [maxLen]))
  have HN := hide (some_nil ad m c w)
  go_enter Tryd.func90, Tryd.ntmps90
  go_wp2_with fail
  rw [HN.out]
  go_wp2_with (refine wpList_append_dst rfl _ _ rfl w.heap.size 0 0 [] (some ad) m c L rfl rfl HD0.out HS.out (by omega) (fun h => by cases h) ?_)
  intro g cap w2 HD HG hgg HK
  refine of_hid ?_
  have hg : w.heap.size ≤ g := by
    rcases hgg with h | h
    · omega
    · omega
  have hb0 := below_new w (.cells #[] 5)
  have HB := hide (belowG hb0 HG.out (Nat.le_refl _) hb0.size)
  clear hb0
  go_wp2
  go_ret
  exact ⟨g, cap, rfl, hg, HD.out, HB.out⟩
theorem at_c (g : Nat) (a : Option Addr) (m c : Nat) (at_ fa fe : Int) (w : World) (h : Rd w g a m c at_ fa fe) :
    Calls Tryd.prog 114 #[.pointer (some ⟨g, 0, none⟩)] w fun e w' => e = .returned (.int .i64 at_) ∧ w = w' := by
  obtain ⟨c0, c1, c2, c3⟩ := h.cells
  go_enter Tryd.func114, Tryd.ntmps114
  go_wp2
  go_ret
  exact ⟨rfl, rfl⟩
/-- has, where so many bytes are there. -/
theorem has_ok (g : Nat) (a : Option Addr) (m c at_ n : Nat) (fa : Int) (w : World) (h : Rd w g a m c (at_ : Int) fa 0) (hat : at_ + n ≤ m) (hm : m ≤ 281474976710656) :
    Calls Tryd.prog 94 #[.pointer (some ⟨g, 0, none⟩), .int .i64 (n : Int)] w fun e w' => e = .returned (.bool true) ∧ ∃ k, w' = w.drewN k := by
  have H := hide h
  obtain ⟨c0, c1, c2, c3⟩ := h.cells
  have HS := hide (fun u (hu : Rd u g a m c (at_ : Int) fa 0) => sound_c g a m c (at_ : Int) fa 0 u hu)
  clear h
  have hd : decide ((m : Int) - (at_ : Int) < (n : Int)) = false := by simp; omega
  have hw : IntKind.i64.wrap ((m : Int) - (at_ : Int)) = (m : Int) - (at_ : Int) := IntWalk.i64_in _ (by omega)
  go_enter Tryd.func94, Tryd.ntmps94
  go_wp2_with fail
  refine wp_region_keep (fun u => ∃ k, u = w.drewN k) (by kernel_rfl) (by kernel_rfl) ⟨1, rfl⟩ ?_
  repeat (first
    | (refine keep_step (v := ?_) (by rfl) (fun u K hS hK => ?_) ?_
       rotate_left
       · obtain ⟨nn, rfl⟩ := hS
         (go_simp; first
           | exact hK _ ⟨nn, rfl⟩
           | (go_at_call 95; refine (HS.out (w.drewN nn) H.out).mono ?_; rintro e u2 ⟨rfl, rfl⟩; exact hK _ ⟨nn, rfl⟩))
       simp only [Act.put, List.setIfInBounds_toArray, List.set_cons_zero, List.set_cons_succ]))
  refine keep_nil (fun w3 hS3 => ?_)
  obtain ⟨k3, rfl⟩ := hS3
  have H3 : Hid (Rd (w.drewN k3) g a m c (at_ : Int) fa 0) := H.out
  clear c0 c1 c2 c3 hw hd
  have HW : Hid (∃ k, w.drewN k3 = w.drewN k) := ⟨k3, rfl⟩
  generalize w.drewN k3 = w3 at *
  go_wp2_with fail
  refine (HS.out w3 H3.out).mono ?_
  rintro e w4 ⟨rfl, rfl⟩
  go_wp2
  go_ret
  exact ⟨rfl, HW.out⟩
/-- Byte, where one is there. -/
theorem byte_ok (g : Nat) (a : Option Addr) (m c at_ : Nat) (L : List Nat) (fa : Int) (w : World) (h : Rd w g a m c (at_ : Int) fa 0) (hs : SrcB w a m L) (hga : ∀ ad, a = some ad → ad.block ≠ g) (hat : at_ < m) (hmc : m ≤ c) (hm : m ≤ 281474976710656) :
    Calls Tryd.prog 113 #[.pointer (some ⟨g, 0, none⟩)] w fun e w' => e = .returned (.int .u8 ((L.getD at_ 0 : Nat) : Int)) ∧ Rd w' g a m c ((at_ + 1 : Nat) : Int) fa 0 ∧ w.grownBy w' (some g) := by
  have H := hide h
  have HS := hide hs
  clear h hs
  go_enter Tryd.func113, Tryd.ntmps113
  go_wp2_with fail
  refine (has_ok g a m c at_ 1 fa w H.out (by omega) hm).mono ?_
  rintro e w1 ⟨rfl, k1, rfl⟩
  have H1 : Hid (Rd (w.drewN k1) g a m c (at_ : Int) fa 0) := H.out
  have HG1 : Hid (w.grownBy (w.drewN k1) (some g)) := ⟨rfl, rfl, rfl, Nat.le_refl _, fun _ _ _ => rfl⟩
  have HS1 : Hid (SrcB (w.drewN k1) a m L) := HS.out
  generalize w.drewN k1 = w1 at *
  go_wp2_with fail
  refine (next_c g a m c at_ 1 fa 0 w1 H1.out (by omega) hmc hm).mono ?_
  rintro e w2 ⟨A', hA', rfl, hr2, hg2⟩
  have HR2 := hide hr2
  have HG2 := hide (grown_trans HG1.out hg2)
  obtain ⟨hl, h8, b, off, ha, hc⟩ := HS1.out
  obtain rfl := ha (by omega)
  rw [if_neg (by omega)] at hA'
  simp only [Option.map_some] at hA'
  have hcell : w2.cell? ⟨b, off + at_, none⟩ = some (.int .u8 ((L.getD at_ 0 : Nat) : Int)) := by
    have hc1 := hc at_ (by omega)
    rw [World.cell?_of_block (a := ⟨b, off + at_, none⟩) (hg2.block b (cell_lt hc1) (fun e => hga _ rfl (by injection e)))]
    exact hc1
  rw [Addr.add_mid] at hA'
  subst hA'
  clear hr2 hg2 hc ha
  obtain ⟨z, hz⟩ : ∃ z, z = L.getD at_ 0 := ⟨_, rfl⟩
  rw [← hz] at hcell
  have HZ := hide hz
  clear hz
  go_wp2
  go_ret
  exact ⟨by rw [← HZ.out]; rfl, HR2.out, HG2.out⟩
theorem numP_numL (R : List Nat) : ∀ (n i acc : Nat), (0 < i → 0 < n) → i + (numL n).length ≤ 6 → acc + n * 2 ^ (7 * i) ≤ 1099511627776 → numP (numL n ++ R) i acc = .ok (acc + n * 2 ^ (7 * i)) (i + (numL n).length) := by
  intro n
  induction n using Nat.strongRecOn with
  | _ n ih =>
    intro i acc hi hl hb
    by_cases h : n < 128
    · rw [numL_small n h] at hl ⊢
      simp only [List.length_cons, List.length_nil] at hl
      simp only [List.cons_append, List.nil_append, numP]
      have hm : n % 128 = n := Nat.mod_eq_of_lt h
      rw [hm, if_neg (by omega), if_neg (by omega), if_neg (by omega)]
      simp
    · rw [numL_big n h] at hl ⊢
      simp only [List.length_cons] at hl
      simp only [List.cons_append, numP]
      have hp := numL_pos (n / 128)
      have hm : (n % 128 + 128) % 128 = n % 128 := by omega
      have e : n * 2 ^ (7 * i) = n % 128 * 2 ^ (7 * i) + n / 128 * 2 ^ (7 * (i + 1)) := by
        have h1 : 2 ^ (7 * (i + 1)) = 128 * 2 ^ (7 * i) := by rw [show 7 * (i + 1) = 7 * i + 7 by omega, Nat.pow_add]; omega
        rw [h1]
        generalize 2 ^ (7 * i) = q
        have h2 := Nat.div_add_mod n 128
        calc n * q = (128 * (n / 128) + n % 128) * q := by rw [h2]
          _ = n % 128 * q + n / 128 * (128 * q) := by rw [Nat.add_mul, Nat.mul_comm 128 (n / 128), Nat.mul_assoc]; omega
      rw [if_neg (by omega), if_pos (by omega), hm, ih (n / 128) (by omega) (i + 1) _ (by omega) (by omega) (by rw [Nat.add_assoc, ← e]; exact hb), Nat.add_assoc, ← e]
      simp only [List.length_cons]
      congr 1
      omega
theorem range3 {W : World} {b : Nat} {x y z : Value} {T : TypeId} {f : Nat × Nat} (h : W.heap[b]? = some (.cells #[x, y, z] T f)) : W.rangeAt b 0 [x, y, z] := by
  intro j v hv
  rw [Nat.zero_add]
  refine blk_cell h ?_
  simpa using hv
theorem load_frame {W : World} {b : Nat} {x y z : Value} {T : TypeId} {f : Nat × Nat} (h : W.heap[b]? = some (.cells #[x, y, z] T f)) : Sem.run Tryd.prog (loadVar 51 ⟨b, 0, none⟩) W = .ok (.agg #[x, y, z]) W :=
  run_loadVar_mid (P := Tryd.prog) W b 0 51 [x, y, z] _ (range3 h) Tryd.underlying51 rfl (by kernel_rfl)
theorem set_frame {W : World} {b : Nat} {x y z : Value} {T : TypeId} {f : Nat × Nat} (h : W.heap[b]? = some (.cells #[x, y, z] T f)) (x' y' z' : Value) : (((W.setCell ⟨b, 0, none⟩ x').setCell ⟨b, 1, none⟩ y').setCell ⟨b, 2, none⟩ z').heap[b]? = some (.cells #[x', y', z'] T f) := by
  have := blk_set (i := 2) (blk_set (i := 1) (blk_set (i := 0) h x') y') z'
  rw [this]
  simp
/-- What a frame's head tells. -/
def HeadOk (w : World) (k s l : Nat) (e : Ending) (w' : World) : Prop :=
  e = .returned (.tuple #[.agg #[.int .i64 (k : Int), .int .i64 (s : Int), .slice none 0 0], .int .i64 ((1 + (numL l).length : Nat) : Int), .int .i64 (l : Int), .nilIface]) ∧ Below w.heap.size w w'
set_option maxHeartbeats 1600000 in
set_option maxRecDepth 100000 in
theorem head_ok (k s l : Nat) (ad : Addr) (m c : Nat) (R : List Nat) (w : World) (hs : SrcB w (some ad) m ((8 * k + s) :: numL l ++ R)) (hmc : m ≤ c) (hm : m ≤ 281474976710656) (hk1 : 1 ≤ k) (hk2 : k ≤ 31) (hs2 : s ≤ 7) (hl : l ≤ 16384) :
    Calls Tryd.prog 89 #[.slice (some ad) m c] w (HeadOk w k s l) := by
  have hlen := hs.1
  simp only [List.length_cons, List.length_append, List.cons_append] at hlen
  have h6 := numL_six l (by omega)
  have hpl := numL_pos l
  have HS := hide hs
  have hadl : ad.block < w.heap.size := by
    obtain ⟨h1, h2, b, off, h3, h4⟩ := hs
    have := h3 (by omega)
    injection this with this
    subst this
    exact cell_lt (h4 0 (by omega))
  clear hs
  go_enter Tryd.func89, Tryd.ntmps89
  go_wp2_with fail
  have HF0 := hide (heap_last w (.cells #[.int .i64 0, .int .i64 0, .slice none 0 0] 51))
  have HB0 := hide (below_new w (.cells #[.int .i64 0, .int .i64 0, .slice none 0 0] 51))
  have hz0 : (w.alloc (.cells #[.int .i64 0, .int .i64 0, .slice none 0 0] 51)).heap.size = w.heap.size + 1 := by simp
  generalize w.alloc (.cells #[.int .i64 0, .int .i64 0, .slice none 0 0] 51) = w1 at *
  refine (read_c (some ad) m c w1).mono ?_
  rintro e w2 ⟨rfl, rfl⟩
  have HF2 := hide (heap_old HF0.out (.cells #[.slice (some ad) m c, .int .i64 0, .int .i64 0, .int .i64 0] 144))
  have HR2 : Hid (Rd _ w1.heap.size (some ad) m c ((0 : Nat) : Int) 0 0) := hide (heap_last w1 (.cells #[.slice (some ad) m c, .int .i64 0, .int .i64 0, .int .i64 0] 144))
  have HB2 := hide (keepB (below_new w1 (.cells #[.slice (some ad) m c, .int .i64 0, .int .i64 0, .int .i64 0] 144)) (Nat.le_refl _) HB0.out)
  have HS2 := hide (HS.out.below HB2.out)
  generalize w1.alloc (.cells #[.slice (some ad) m c, .int .i64 0, .int .i64 0, .int .i64 0] 144) = w2 at *
  rw [hz0]
  rw [hz0] at HR2
  go_wp2_with fail
  refine (byte_ok (w.heap.size + 1) (some ad) m c 0 _ 0 w2 HR2.out HS2.out (fun x hx => by injection hx with hx; subst hx; omega) (by omega) hmc hm).mono ?_
  rintro e w3 ⟨rfl, hr3, hg3⟩
  have e0 : ((8 * k + s) :: numL l ++ R).getD 0 0 = 8 * k + s := rfl
  rw [e0]
  have HR3 := hide hr3
  have HB3 := hide (belowG HB2.out hg3 (by omega) HB2.out.size)
  have HS3 := hide (HS.out.below HB3.out)
  have HF3 := hide (keepG hg3 (by omega) HF2.out)
  clear hr3 hg3 e0
  go_wp2_with fail
  have hP : numP (((8 * k + s) :: numL l ++ R).drop 1) 0 0 = .ok l (numL l).length := by
    have := numP_numL R l 0 0 (by omega) (by omega) (by omega)
    simpa using this
  refine (num_ok (w.heap.size + 1) (some ad) m c 1 _ 0 w3 l (numL l).length HR3.out HS3.out (by omega) hmc hm hP (by omega)).mono ?_
  rintro e w4 ⟨rfl, hr4, hg4⟩
  have HR4 := hide hr4
  have HB4 := hide (belowG HB3.out hg4 (by omega) HB3.out.size)
  have HF4 := hide (keepG hg4 (by omega) HF3.out)
  clear hr4 hg4 hP
  go_wp2_with fail
  refine (err_none (w.heap.size + 1) (some ad) m c _ 0 w4 HR4.out).mono ?_
  rintro e w5 ⟨rfl, rfl⟩
  have d1 : decide (8 * (k : Int) + (s : Int) < 8) = false := by simp; omega
  have d2 : decide ((16384 : Int) < (l : Int)) = false := by simp; omega
  have d2' : decide (16384 < l) = false := by simp; omega
  have q1 : (8 * (k : Int) + (s : Int)) / 8 = (k : Int) := by omega
  have q2 : (8 * (k : Int) + (s : Int)) % 8 = (s : Int) := by omega
  have hm0 : 0 < m := by omega
  have dm : decide ((0 : Int) < (m : Int)) = true := by simp; omega
  go_wp2_with fail
  refine (at_c (w.heap.size + 1) (some ad) m c _ 0 0 w4 HR4.out).mono ?_
  rintro e w5 ⟨rfl, rfl⟩
  have f0 : w4.cell? ⟨w.heap.size, 0, none⟩ = some (.int .i64 0) := blk_cell HF4.out rfl
  have f1 : w4.cell? ⟨w.heap.size, 1, none⟩ = some (.int .i64 0) := blk_cell HF4.out rfl
  have f2 : w4.cell? ⟨w.heap.size, 2, none⟩ = some (.slice none 0 0) := blk_cell HF4.out rfl
  have z0 : w4.frozen? ⟨w.heap.size, 0, none⟩ = false := blk_free HF4.out
  have z1 : w4.frozen? ⟨w.heap.size, 1, none⟩ = false := blk_free HF4.out
  have z2 : w4.frozen? ⟨w.heap.size, 2, none⟩ = false := blk_free HF4.out
  rw [q1, q2]
  clear q1 q2 d1 d2 d2' dm
  go_wp2_with fail
  have HL := hide (load_frame (set_frame HF4.out (.int .i64 (k : Int)) (.int .i64 (s : Int)) (.slice none 0 0)))
  have HB5 := hide (belowG HB4.out (grown_setCell (grown_setCell (grown_setCell (World.grownBy.refl w4 (some w.heap.size)) 0 (.int .i64 (k : Int))) 1 (.int .i64 (s : Int))) 2 (.slice none 0 0)) (Nat.le_refl _) HB4.out.size)
  refine bodyPost_ret (v := .tuple #[.agg #[.int .i64 (k : Int), .int .i64 (s : Int), .slice none 0 0], .int .i64 (1 + ((numL l).length : Int)), .int .i64 (l : Int), .nilIface]) ?_ rfl ⟨rfl, HB5.out⟩
  simp [results, Tryd.results89, asAddr, HL.out]
end Go.Proofs.YtpaijhmbfljfmaaDoor.Fc
