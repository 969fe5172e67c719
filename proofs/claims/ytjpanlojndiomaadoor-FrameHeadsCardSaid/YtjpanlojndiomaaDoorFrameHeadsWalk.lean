/- FrameHeads' walk. -/
import Derived.Test.YtjpanlojndiomaaDoorFe
import Derived.Test.YtjpanlojndiomaaDoorFj
namespace Go.Proofs.YtjpanlojndiomaaDoor.FrameHeadsW
set_option linter.unusedVariables false
set_option linter.unusedSimpArgs false
set_option maxRecDepth 100000
open Go.ChangeShapes Go.WideShapes Go.ChangeAt Go.RowKit
open Go.Proofs.YtjpanlojndiomaaDoor.Wu Go.Proofs.YtjpanlojndiomaaDoor.Sm Go.Proofs.YtjpanlojndiomaaDoor.Sh Go.Proofs.YtjpanlojndiomaaDoor.Ba Go.Proofs.YtjpanlojndiomaaDoor.Bp Go.Proofs.YtjpanlojndiomaaDoor.Bs Go.Proofs.YtjpanlojndiomaaDoor.Cr Go.Proofs.YtjpanlojndiomaaDoor.Cv Go.Proofs.YtjpanlojndiomaaDoor.Er Go.Proofs.YtjpanlojndiomaaDoor.Eu Go.Proofs.YtjpanlojndiomaaDoor.Rk Go.Proofs.YtjpanlojndiomaaDoor.Rx Go.Proofs.YtjpanlojndiomaaDoor.Fp Go.Proofs.YtjpanlojndiomaaDoor.Fh Go.Proofs.YtjpanlojndiomaaDoor.Fi Go.Proofs.YtjpanlojndiomaaDoor.Fj
attribute [local go_sem] kUpon_value kUpon_skip kUpon_enter
def Post (w : World) (e : Ending) (w' : World) : Prop := e = .returned (.bool true) ∧ Below w.heap.size w w'
theorem headR_kind {L : List Nat} {k s h n : Nat} (hR : headR L = .ok k s h n) : k = L.getD 0 0 / 8 := by
  have h0 := (headR_ok hR).2.2.1
  have hb1 : s0.has L.length 1 = s0 := by unfold Rs.has; rw [if_neg (by show ¬ (_ ∧ L.length < 0 + 1); omega)]
  have hb3 : s0.byteV L = L.getD 0 0 := by unfold Rs.byteV; rw [hb1, if_pos (show s0.fe = 0 from rfl)]; rfl
  unfold headR at hR
  split at hR
  · cases hR
  · split at hR
    · cases hR
    · split at hR
      · cases hR
      · simp only [HR.ok.injEq] at hR
        rw [← hb3]
        exact hR.1.symm
theorem headR_code {L : List Nat} {code place : Int} (hR : headR L = .bad code place) : code ≠ 0 := by
  unfold headR at hR
  split at hR
  · simp only [HR.bad.injEq] at hR; omega
  · split at hR
    · rename_i h2
      simp only [HR.bad.injEq] at hR
      intro hc
      exact h2 (by omega)
    · split at hR
      · simp only [HR.bad.injEq] at hR; omega
      · cases hR
set_option maxHeartbeats 1600000 in
theorem walk_ok (a : Option Addr) (m c : Nat) (L : List Nat) (k s h n : Nat) (w : World) (hs : SrcB w a m L) (hmc : m ≤ c) (hm : m ≤ 140737488355328) (hR : headR L = .ok k s h n) (hfit : h + n ≤ m) :
    Calls Tryd.prog 4 #[.slice a m c] w (Post w) := by
  have HC := hide (Fe.reads_c w)
  have HS := hide hs
  have hLm := hs.1
  have H8 := hide hs.2.1
  have hok := headR_ok hR
  have hrr : readR L = .ok k s h n := by unfold readR; rw [hR]; simp only; rw [if_neg (by omega)]
  have HH := hide (fun u (hu : SrcB u a m L) => head_any a m c L u hu hmc (by omega))
  rw [hR] at HH
  have HRef := hide (fun u => refRead_c L u H8.out (by omega))
  rw [hrr] at HRef
  simp only [refV] at HRef
  have hDl : ((L.drop h).take n).length = n := by rw [List.length_take, List.length_drop]; omega
  clear hs hR hrr
  generalize (L.drop h).take n = D at *
  have hsz : (strN D).size = n := by rw [strN_size]; exact hDl
  go_enter Tryd.func4, Tryd.ntmps4
  go_wp2_with fail
  refine HC.out.mono ?_
  rintro e w1 ⟨rfl, hb⟩
  have HB1 := hide hb
  clear hb HC
  go_wp2_with fail
  refine (HH.out w1 (HS.out.below HB1.out)).mono ?_
  rintro e w2 ⟨hb2, rfl⟩
  have HB2 := hide (keepB hb2 (Nat.le_refl _) HB1.out)
  have HF3 := hide (heap_last w2 (.cells #[.int .i64 (k : Int), .int .i64 (s : Int), .slice none 0 0] 25))
  have hb3 := below_new w2 (.cells #[.int .i64 (k : Int), .int .i64 (s : Int), .slice none 0 0] 25)
  have HB3 := hide (keepB hb3 (Nat.le_refl _) HB2.out)
  have hcv := conv_src (cap := c) (HS.out.below HB3.out)
  clear HH HB1 hb2
  go_wp2_with fail
  generalize w2.alloc (.cells #[.int .i64 (k : Int), .int .i64 (s : Int), .slice none 0 0] 25) = w3 at *
  generalize w2.heap.size = F at *
  clear hb3 hcv HB2
  refine (HRef.out w3).mono ?_
  rintro e w4 ⟨rfl, hb4⟩
  have HF4 := hide (below_blk hb4 (heap_lt HF3.out) HF3.out)
  have HB4 := hide (keepB hb4 (Nat.le_refl _) HB3.out)
  clear hb4 HF3 HB3 HRef
  obtain ⟨c0, c1, c2, f0, f1, f2⟩ := blk3 HF4.out
  have hlt := heap_lt HF4.out
  have hb5 := below_new w4 (.cells #[.int .i64 (k : Int), .int .i64 (s : Int), .string (strN D)] 31)
  have HB5 := hide (keepB hb5 (Nat.le_refl _) HB4.out)
  clear hb5
  go_wp2
  go_ret
  exact ⟨rfl, HB5.out⟩
set_option maxHeartbeats 1600000 in
theorem walk_bad (a : Option Addr) (m c : Nat) (L : List Nat) (code place : Int) (w : World) (he : Et w) (hs : SrcB w a m L) (hmc : m ≤ c) (hm : m ≤ 140737488355328) (hR : headR L = .bad code place) :
    Calls Tryd.prog 4 #[.slice a m c] w (Post w) := by
  have HC := hide (Fe.reads_c w)
  have HE := hide he
  have HS := hide hs
  have hLm := hs.1
  have H8 := hide hs.2.1
  have hc0 := headR_code hR
  have hrr : readR L = .bad code place := by unfold readR; rw [hR]
  have HH := hide (fun u (hu : SrcB u a m L) => head_any a m c L u hu hmc (by omega))
  rw [hR] at HH
  have HRef := hide (fun u => refRead_c L u H8.out (by omega))
  rw [hrr] at HRef
  simp only [refV] at HRef
  have e0 : (code == 0) = false := by simp [hc0]
  clear hs hR hrr he hc0
  go_enter Tryd.func4, Tryd.ntmps4
  go_wp2_with fail
  refine HC.out.mono ?_
  rintro e w1 ⟨rfl, hb⟩
  have HB1 := hide hb
  clear hb HC
  go_wp2_with fail
  refine (HH.out w1 (HS.out.below HB1.out)).mono ?_
  rintro e w2 ⟨hb2, v, rfl, hf⟩
  have HB2 := hide (keepB hb2 (Nat.le_refl _) HB1.out)
  have hb3 := below_new w2 (.cells #[.int .i64 0, .int .i64 0, .slice none 0 0] 25)
  have HB3 := hide (keepB hb3 (Nat.le_refl _) HB2.out)
  have HI3 := hide (hf.isErr.below hb3)
  obtain ⟨b, T, fz, hv, hbb, hbw⟩ := hf
  subst hv
  clear hbb hbw
  have hcv := conv_src (cap := c) (HS.out.below HB3.out)
  clear HH HB1 hb2
  go_wp2_with fail
  generalize w2.alloc (.cells #[.int .i64 0, .int .i64 0, .slice none 0 0] 25) = w3 at *
  generalize w2.heap.size = F at *
  clear hb3 hcv HB2
  refine (HRef.out w3).mono ?_
  rintro e w4 ⟨rfl, hb4⟩
  have HB4 := hide (keepB hb4 (Nat.le_refl _) HB3.out)
  have HI4 := hide (HI3.out.below hb4)
  clear hb4 HB3 HRef HI3
  have hb5 := below_new w4 (.cells #[.int .i64 0, .int .i64 0, .string ⟨#[]⟩] 31)
  have HB5 := hide (keepB hb5 (Nat.le_refl _) HB4.out)
  have HI5 := hide (HI4.out.below hb5)
  clear hb5 HB4 HI4
  go_wp2_with fail
  generalize w4.alloc (.cells #[.int .i64 0, .int .i64 0, .string ⟨#[]⟩] 31) = w5 at *
  refine (Eu.number_c _ code place w5 HI5.out (HE.out.below HB5.out (Nat.le_refl _))).mono ?_
  rintro e w6 ⟨rfl, hb6⟩
  have HB6 := hide (keepB hb6 (Nat.le_refl _) HB5.out)
  have HI6 := hide (HI5.out.below hb6)
  clear hb6 HB5 HI5
  go_wp2_with fail
  refine (Eu.place_c _ code place w6 HI6.out (HE.out.below HB6.out (Nat.le_refl _))).mono ?_
  rintro e w7 ⟨rfl, hb7⟩
  have HB7 := hide (keepB hb7 (Nat.le_refl _) HB6.out)
  clear hb7 HB6 HI6
  go_wp2
  go_ret
  exact ⟨rfl, HB7.out⟩
/-- What is known while the head is compared. -/
structure S (w : World) (F : Nat) (k s : Int) (a : Option Addr) (m : Nat) (L : List Nat) (u : World) : Prop where
  f : u.heap[F]? = some (.cells #[.int .i64 k, .int .i64 s, .slice none 0 0] 25 (0, 0))
  d : SrcB u a m L
  b : Below w.heap.size w u
set_option maxHeartbeats 1600000 in
theorem walk_short (a : Option Addr) (m c : Nat) (L : List Nat) (k s h n : Nat) (w : World) (hs : SrcB w a m L) (hmc : m ≤ c) (hm : m ≤ 140737488355328) (hR : headR L = .ok k s h n) (hfit : m < h + n) :
    Calls Tryd.prog 4 #[.slice a m c] w (Post w) := by
  have HC := hide (Fe.reads_c w)
  have HS := hide hs
  have hLm := hs.1
  have H8 := hide hs.2.1
  have hok := headR_ok hR
  rw [hLm] at hok
  have hkx := headR_kind hR
  have hx8 := all8_getD hs.2.1 0
  have hrr : readR L = .bad 30 (L.length : Int) := by unfold readR; rw [hR]; simp only; rw [if_pos (by omega)]
  rw [hLm] at hrr
  have HH := hide (fun u (hu : SrcB u a m L) => head_any a m c L u hu hmc (by omega))
  rw [hR] at HH
  have HRef := hide (fun u => refRead_c L u H8.out (by omega))
  rw [hrr] at HRef
  simp only [refV] at HRef
  obtain ⟨bb, off, ha, hcell⟩ := hs.2.2
  obtain rfl := ha (by omega)
  have HCell : Hid (∀ u, SrcB u (some ⟨bb, off, none⟩) m L → u.cell? ⟨bb, off, none⟩ = some (.int .u8 ((L.getD 0 0 : Nat) : Int))) := fun u hu => by
    obtain ⟨_, _, b2, o2, h2, h3⟩ := hu
    have := h2 (by omega)
    injection this with this
    injection this with q1 q2
    subst q1
    subst q2
    exact h3 0 (by omega)
  clear hs hR hrr ha hcell
  generalize L.getD 0 0 = x at *
  subst hkx
  go_enter Tryd.func4, Tryd.ntmps4
  go_wp2_with fail
  refine HC.out.mono ?_
  rintro e w1 ⟨rfl, hb⟩
  have HB1 := hide hb
  clear hb HC
  go_wp2_with fail
  refine (HH.out w1 (HS.out.below HB1.out)).mono ?_
  rintro e w2 ⟨hb2, rfl⟩
  have HB2 := hide (keepB hb2 (Nat.le_refl _) HB1.out)
  have HF3 := hide (heap_last w2 (.cells #[.int .i64 ((x / 8 : Nat) : Int), .int .i64 (s : Int), .slice none 0 0] 25))
  have hb3 := below_new w2 (.cells #[.int .i64 ((x / 8 : Nat) : Int), .int .i64 (s : Int), .slice none 0 0] 25)
  have HB3 := hide (keepB hb3 (Nat.le_refl _) HB2.out)
  have hcv := conv_src (cap := c) (HS.out.below HB3.out)
  clear HH HB1 hb2
  obtain ⟨kk, hkk⟩ : ∃ kk : Int, kk = ((x / 8 : Nat) : Int) := ⟨_, rfl⟩
  rw [← hkk] at HF3 hb3 HB3 hcv ⊢
  have Hkk := hide hkk
  clear hkk
  go_wp2_with fail
  generalize w2.alloc (.cells #[.int .i64 kk, .int .i64 (s : Int), .slice none 0 0] 25) = w3 at *
  generalize w2.heap.size = F at *
  clear hb3 hcv HB2
  refine (HRef.out w3).mono ?_
  rintro e w4 ⟨rfl, hb4⟩
  have HF4 := hide (below_blk hb4 (heap_lt HF3.out) HF3.out)
  have HB4 := hide (keepB hb4 (Nat.le_refl _) HB3.out)
  clear hb4 HF3 HB3 HRef
  have hb5 := below_new w4 (.cells #[.int .i64 0, .int .i64 0, .string ⟨#[]⟩] 31)
  have HB5 := hide (keepB hb5 (Nat.le_refl _) HB4.out)
  have HF5 := hide (heap_old HF4.out (.cells #[.int .i64 0, .int .i64 0, .string ⟨#[]⟩] 31))
  clear hb5 HB4 HF4
  go_wp2_with fail
  generalize w4.alloc (.cells #[.int .i64 0, .int .i64 0, .string ⟨#[]⟩] 31) = w5 at *
  have HS0 : Hid (S w F kk (s : Int) (some ⟨bb, off, none⟩) m L w5.drew) := hide ⟨HF5.out, HS.out.below HB5.out.drew, HB5.out.drew⟩
  have mixed : Tryd.prog.follows Departure.mixedOrders = true := by kernel_rfl
  have hw1 : IntKind.i64.wrap ((h : Int) + (n : Int)) = (h : Int) + (n : Int) := IntWalk.i64_in _ (by omega)
  have hw2 : IntKind.i64.wrap ((x : Int) / 8) = (x : Int) / 8 := IntWalk.i64_in _ (by omega)
  have hw4 : wrap64 (x : Int) = (x : Int) := IntWalk.wrap64_in _ (by omega)
  have hw5 : IntKind.i64.wrap (x : Int) = (x : Int) := IntWalk.i64_in _ (by omega)
  have q1 : decide ((m : Int) < (h : Int) + (n : Int)) = true := by simp; omega
  have q2 : decide ((h : Int) ≤ (m : Int)) = true := by simp; omega
  have q2' : decide (h ≤ m) = true := by simp; omega
  have q3 : (kk == (x : Int) / 8) = true := by rw [Hkk.out]; simp
  have hm0 : 0 < m := by omega
  have hm1 : (0 : Int) < (m : Int) := by omega
  refine wp_region_keep (S w F kk (s : Int) (some ⟨bb, off, none⟩) m L) mixed (by kernel_rfl) HS0.out ?_
  repeat (
    refine keep_step (v := ?_) (by rfl) (fun u K hS hK => ?_) ?_
    rotate_left
    · obtain ⟨c0, c1, c2, f0, f1, f2⟩ := blk3 hS.f
      have hcx := HCell.out u hS.d
      go_simp
      exact hK _ hS
    simp only [Act.put, List.setIfInBounds_toArray, List.set_cons_zero, List.set_cons_succ])
  refine keep_nil (fun w6 hS6 => ?_)
  have HB6 := hide hS6.b
  clear hS6 HS0
  go_wp2
  go_ret
  exact ⟨rfl, HB6.out⟩
theorem walk (a : Option Addr) (m c : Nat) (L : List Nat) (w : World) (he : Et w) (hs : SrcB w a m L) (hmc : m ≤ c) (hm : m ≤ 140737488355328) :
    Calls Tryd.prog 4 #[.slice a m c] w (Post w) := by
  cases hR : headR L with
  | bad code place => exact walk_bad a m c L code place w he hs hmc hm hR
  | ok k s h n =>
    by_cases hf : h + n ≤ m
    · exact walk_ok a m c L k s h n w hs hmc hm hR hf
    · exact walk_short a m c L k s h n w hs hmc hm hR (by omega)
end Go.Proofs.YtjpanlojndiomaaDoor.FrameHeadsW
