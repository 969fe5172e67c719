/- next, Num, Err, End of the Reader. -/
import Derived.Test.YtkinpbhbgeiflaaDoorCs
import Derived.Test.YtkinpbhbgeiflaaDoorQc
namespace Go.Proofs.YtkinpbhbgeiflaaDoor.Ct
set_option linter.unusedVariables false
set_option linter.unusedSimpArgs false
set_option maxRecDepth 100000
open Go.ChangeShapes Go.WideShapes Go.ChangeAt Go.RowKit
open Go.Proofs.YtkinpbhbgeiflaaDoor.Wu Go.Proofs.YtkinpbhbgeiflaaDoor.Sm Go.Proofs.YtkinpbhbgeiflaaDoor.Sh Go.Proofs.YtkinpbhbgeiflaaDoor.Ba Go.Proofs.YtkinpbhbgeiflaaDoor.Bp Go.Proofs.YtkinpbhbgeiflaaDoor.Bq Go.Proofs.YtkinpbhbgeiflaaDoor.Cm Go.Proofs.YtkinpbhbgeiflaaDoor.Cn Go.Proofs.YtkinpbhbgeiflaaDoor.Cr Go.Proofs.YtkinpbhbgeiflaaDoor.Cs Go.Proofs.YtkinpbhbgeiflaaDoor.Rk
attribute [local go_sem] kUpon_value kUpon_skip kUpon_enter

theorem slice_mid (u : World) (a : Option Addr) (len cap l h : Nat) (hl : l ≤ h) (hh : h ≤ cap) :
    Sem.run Tryd.prog (Instr.slice 22 (.slice a len cap) (some (.int .i64 (l : Int))) (some (.int .i64 (h : Int))) none) u = .ok (.slice (if cap = l then a else a.map (·.add l)) (h - l) (cap - l)) u := by
  rw [run_slice_lh u 22 a len cap und_bs .i64 .i64 _ _ (by omega) (by omega) (by omega), elem_bs, size_u8]
  simp only [Result.andThen, sliced, Int.toNat_natCast, Nat.mul_one]
/-- What next leaves: the bytes' slice, and the reader behind them. -/
def NextPost (w : World) (g : Nat) (a : Option Addr) (m c at_ n : Nat) (fa fe : Int) (e : Ending) (w' : World) : Prop :=
  ∃ A' : Option Addr, A' = (if c = at_ then a else a.map (·.add at_)) ∧ e = .returned (.slice A' n (c - at_)) ∧ Rd w' g a m c ((at_ + n : Nat) : Int) fa fe ∧ w.grownBy w' (some g)
/-- The reader behind s bytes more, and a number. -/
def NumOk (w : World) (g : Nat) (a : Option Addr) (m c at_ s : Nat) (fa : Int) (n : Nat) (e : Ending) (w' : World) : Prop :=
  e = .returned (.int .i64 (n : Int)) ∧ Rd w' g a m c ((at_ + s : Nat) : Int) fa 0 ∧ w.grownBy w' (some g)
/-- A nil error, and draws alone. -/
def NilErr (w : World) (e : Ending) (w' : World) : Prop := e = .returned .nilIface ∧ ∃ k, w' = w.drewN k
set_option maxHeartbeats 1600000 in
theorem next_c (g : Nat) (a : Option Addr) (m c at_ n : Nat) (fa fe : Int) (w : World) (h : Rd w g a m c (at_ : Int) fa fe) (hat : at_ + n ≤ m) (hmc : m ≤ c) (hm : m ≤ 281474976710656) :
    Calls Tryd.prog 96 #[.pointer (some ⟨g, 0, none⟩), .int .i64 (n : Int)] w (NextPost w g a m c at_ n fa fe) := by
  have H := hide h
  obtain ⟨c0, c1, c2, c3⟩ := h.cells
  have f1 := h.free 1
  clear h
  have hs : (at_ : Int) + (n : Int) = ((at_ + n : Nat) : Int) := by omega
  obtain ⟨A', hA'⟩ : ∃ A', A' = (if c = at_ then a else a.map (·.add at_)) := ⟨_, rfl⟩
  have HA' := hide hA'
  have HSL := hide (fun v : World => slice_mid v a m c at_ (at_ + n) (by omega) (by omega))
  rw [← hA', show at_ + n - at_ = n by omega] at HSL
  have Hs := hide hs
  clear hs hA'
  go_enter Tryd.func96, Tryd.ntmps96
  go_wp2_with fail
  rw [Hs.out]
  have H1 := hide (H.out.setAt ((at_ + n : Nat) : Int))
  have HG := hide (grown_setCell (World.grownBy.refl w (some g)) 1 (.int .i64 ((at_ + n : Nat) : Int)))
  clear c0 c1 c2 c3 f1
  generalize (w.setCell ⟨g, 1, none⟩ (.int .i64 ((at_ + n : Nat) : Int))) = w1 at *
  obtain ⟨c0, c1, c2, c3⟩ := H1.out.cells
  obtain ⟨q, hq⟩ : ∃ q, q = at_ + n := ⟨_, rfl⟩
  rw [← hq] at c1 H1 HSL ⊢
  have hqn : (q : Int) - (n : Int) = (at_ : Int) := by omega
  have hw : IntKind.i64.wrap ((q : Int) - (n : Int)) = (at_ : Int) := by rw [hqn]; exact IntWalk.i64_in _ (by omega)
  have hsl := HSL.out
  have Hq := hide hq
  clear hq hqn
  go_quiet (fail)
  clear hw hsl c0 c1 c2 c3
  go_wp2
  go_ret
  exact ⟨A', HA'.out, rfl, by rw [← Hq.out]; exact H1.out, HG.out.os, HG.out.tape, HG.out.output, HG.out.size, HG.out.block⟩
/-- Num, where the bytes are a number. -/
theorem num_ok (g : Nat) (a : Option Addr) (m c at_ : Nat) (L : List Nat) (fa : Int) (w : World) (n s : Nat) (h : Rd w g a m c (at_ : Int) fa 0) (hs : SrcB w a m L) (hat : at_ ≤ m) (hmc : m ≤ c) (hm : m ≤ 281474976710656) (hR : numP (L.drop at_) 0 0 = .ok n s) (hfit : at_ + s ≤ m) :
    Calls Tryd.prog 64 #[.pointer (some ⟨g, 0, none⟩)] w (NumOk w g a m c at_ s fa n) := by
  have H := hide h
  have HS := hide hs
  have HR := hide hR
  clear h hs hR
  go_enter Tryd.func64, Tryd.ntmps64
  go_wp2_with fail
  refine (number_c g a m c at_ L fa w (.ok n s) H.out HS.out hat hmc hm HR.out).mono ?_
  rintro e w1 ⟨rfl, k1, rfl⟩
  have H1 : Hid (Rd (w.drewN k1) g a m c (at_ : Int) fa 0) := H.out
  have HG1 : Hid (w.grownBy (w.drewN k1) (some g)) := ⟨rfl, rfl, rfl, Nat.le_refl _, fun _ _ _ => rfl⟩
  generalize w.drewN k1 = w1 at *
  go_wp2_with fail
  refine (next_c g a m c at_ s fa 0 w1 H1.out hfit hmc hm).mono ?_
  rintro e w2 ⟨A', hA', rfl, hr2, hg2⟩
  clear hA'
  have HR2 := hide hr2
  have HG2 := hide (grown_trans HG1.out hg2)
  clear hr2 hg2
  go_wp2
  go_ret
  exact ⟨rfl, HR2.out, HG2.out⟩
theorem err_none (g : Nat) (a : Option Addr) (m c : Nat) (at_ fa : Int) (w : World) (h : Rd w g a m c at_ fa 0) :
    Calls Tryd.prog 65 #[.pointer (some ⟨g, 0, none⟩)] w fun e w' => e = .returned .nilIface ∧ w = w' := by
  have H := hide h
  clear h
  go_enter Tryd.func65, Tryd.ntmps65
  go_wp2_with fail
  refine (sound_c g a m c _ _ _ w H.out).mono ?_
  rintro e w1 ⟨rfl, rfl⟩
  go_wp2
  go_ret
  exact ⟨rfl, rfl⟩
/-- End, at the end. -/
theorem end_ok (g : Nat) (a : Option Addr) (m c : Nat) (fa : Int) (w : World) (h : Rd w g a m c (m : Int) fa 0) :
    Calls Tryd.prog 67 #[.pointer (some ⟨g, 0, none⟩)] w (NilErr w) := by
  have H := hide h
  obtain ⟨c0, c1, c2, c3⟩ := h.cells
  have HS := hide (fun u (hu : Rd u g a m c (m : Int) fa 0) => sound_c g a m c (m : Int) fa 0 u hu)
  clear h
  have hd : decide ((m : Int) < (m : Int)) = false := by simp
  have hd2 : decide (m < m) = false := by simp
  go_enter Tryd.func67, Tryd.ntmps67
  go_wp2_with fail
  refine wp_region_keep (fun u => ∃ k, u = w.drewN k) (by kernel_rfl) (by kernel_rfl) ⟨1, rfl⟩ ?_
  repeat (first
    | (refine keep_step (v := ?_) (by rfl) (fun u K hS hK => ?_) ?_
       rotate_left
       · obtain ⟨nn, rfl⟩ := hS
         (go_simp; first
           | exact hK _ ⟨nn, rfl⟩
           | (go_at_call 97; refine (HS.out (w.drewN nn) H.out).mono ?_; rintro e u2 ⟨rfl, rfl⟩; exact hK _ ⟨nn, rfl⟩))
       simp only [Act.put, List.setIfInBounds_toArray, List.set_cons_zero, List.set_cons_succ]))
  refine keep_nil (fun w3 hS3 => ?_)
  obtain ⟨k3, rfl⟩ := hS3
  have H3 : Hid (Rd (w.drewN k3) g a m c (m : Int) fa 0) := H.out
  clear c0 c1 c2 c3
  have HW : Hid (∃ k, w.drewN k3 = w.drewN k) := ⟨k3, rfl⟩
  generalize w.drewN k3 = w3 at *
  go_wp2_with fail
  refine (err_none g a m c _ _ w3 H3.out).mono ?_
  rintro e w4 ⟨rfl, rfl⟩
  go_wp2
  go_ret
  exact ⟨rfl, HW.out⟩
end Go.Proofs.YtkinpbhbgeiflaaDoor.Ct
