/- AuthAnswers' walk. -/
import Derived.Test.YtifepgigkmhdaaaDoorPk
namespace Go.Proofs.YtifepgigkmhdaaaDoor.AuthAnswersW
set_option linter.unusedVariables false
set_option linter.unusedSimpArgs false
set_option maxRecDepth 100000
open Go.ChangeShapes Go.WideShapes Go.ChangeAt Go.RowKit
open Go.Proofs.YtifepgigkmhdaaaDoor.Wu Go.Proofs.YtifepgigkmhdaaaDoor.Sm Go.Proofs.YtifepgigkmhdaaaDoor.Sh Go.Proofs.YtifepgigkmhdaaaDoor.Ba Go.Proofs.YtifepgigkmhdaaaDoor.Bp Go.Proofs.YtifepgigkmhdaaaDoor.Bs Go.Proofs.YtifepgigkmhdaaaDoor.Ab Go.Proofs.YtifepgigkmhdaaaDoor.Rk Go.Proofs.YtifepgigkmhdaaaDoor.Rx Go.Proofs.YtifepgigkmhdaaaDoor.Ac Go.Proofs.YtifepgigkmhdaaaDoor.Ad Go.Proofs.YtifepgigkmhdaaaDoor.Ae Go.Proofs.YtifepgigkmhdaaaDoor.Af
open Go.Proofs.YtifepgigkmhdaaaDoor.Sn (Fst fst_keep)
open Go.Proofs.YtifepgigkmhdaaaDoor.Sxa (Tbl tbl_keep)
open Go.Proofs.YtifepgigkmhdaaaDoor.Smc (macL)
attribute [local go_sem] kUpon_value kUpon_skip kUpon_enter
theorem out_walk (s t : ByteArray) (X : List Nat) (w : World) (hT : Tbl w) (hF : Fst w) (hg : 200 < s.size ∨ 200 < t.size) :
    Calls Tryd.prog 9 #[.string s, .string t, .agg (u8s X)] w fun e w' => e = .returned (.bool true) ∧ Below w.heap.size w w' := by
  have hn := below_new w (.cells (u8s X) 98)
  have HH := hide (lets_c (w.alloc (.cells (u8s X) 98)) (tbl_keep hT hn (Nat.le_refl _)) (fst_keep hF hn (Nat.le_refl _)))
  have HN := hide hn
  clear hT hF hn
  have hc : 200 < s.size ∨ (¬ 200 < s.size ∧ 200 < t.size) := by omega
  clear hg
  obtain ⟨p, hp⟩ : ∃ p, p = s.size := ⟨_, rfl⟩
  obtain ⟨q, hq⟩ : ∃ q, q = t.size := ⟨_, rfl⟩
  rw [← hp, ← hq] at hc
  have e1 : s.size = p := hp.symm
  have e2 : t.size = q := hq.symm
  clear hp hq
  rcases hc with h1 | ⟨h1, h2⟩
  · have d1 : decide ((200 : Int) < (p : Int)) = true := by simp; omega
    have d1' : decide (200 < p) = true := by simp; omega
    clear h1
    go_enter Tryd.func9, Tryd.ntmps9
    go_wp2_with fail
    generalize (w.alloc (.cells (u8s X) 98)) = w0 at *
    refine HH.out.mono ?_
    rintro e w1 ⟨rfl, hb1⟩
    have HB1 := hide (keepB hb1 (Nat.le_refl _) HN.out)
    clear hb1
    go_wp2
    go_ret
    exact ⟨rfl, HB1.out⟩
  · have d1 : decide ((200 : Int) < (p : Int)) = false := by simp; omega
    have d1' : decide (200 < p) = false := by simp; omega
    have d2 : decide ((200 : Int) < (q : Int)) = true := by simp; omega
    have d2' : decide (200 < q) = true := by simp; omega
    clear h1 h2
    go_enter Tryd.func9, Tryd.ntmps9
    go_wp2_with fail
    generalize (w.alloc (.cells (u8s X) 98)) = w0 at *
    refine HH.out.mono ?_
    rintro e w1 ⟨rfl, hb1⟩
    have HB1 := hide (keepB hb1 (Nat.le_refl _) HN.out)
    clear hb1
    go_wp2
    go_ret
    exact ⟨rfl, HB1.out⟩
set_option maxHeartbeats 1600000 in
theorem in_walk (S M X : List Nat) (w : World) (hS : All8 S) (hM : All8 M) (hX : All8 X) (hXl : X.length = 16) (hT : Tbl w) (hF : Fst w) (h1 : S.length ≤ 200) (h2 : M.length ≤ 200) :
    Calls Tryd.prog 9 #[.string (strN S), .string (strN M), .agg (u8s X)] w fun e w' => e = .returned (.bool true) ∧ Below w.heap.size w w' := by
  have hn := below_new w (.cells (u8s X) 98)
  have HH := hide (lets_c (w.alloc (.cells (u8s X) 98)) (tbl_keep hT hn (Nat.le_refl _)) (fst_keep hF hn (Nat.le_refl _)))
  have HN := hide hn
  have HP := hide (heap_last w (.cells (u8s X) 98))
  obtain ⟨A, hA⟩ : ∃ A, A = macL S (X ++ M) := ⟨_, rfl⟩
  have hAl : A.length = 32 := by rw [hA]; rfl
  have HA := hide (fun (u : World) (hb : Below w.heap.size w u) => ans_c S M X u hS hM hX hXl (by omega) (by omega) (tbl_keep hT hb (Nat.le_refl _)) (fst_keep hF hb (Nat.le_refl _)))
  have HR := hide (fun (u : World) => refans_c S M X u hS hM hX hXl (by omega) (by omega))
  rw [← hA] at HA HR
  have hq := fun u : World => sum_eq A A hAl hAl u
  rw [show decide (A = A) = true by simp] at hq
  have e1 := strN_size S
  have e2 := strN_size M
  generalize strN S = s at *
  generalize strN M = t at *
  obtain ⟨p, hp⟩ : ∃ p, p = S.length := ⟨_, rfl⟩
  obtain ⟨q, hq⟩ : ∃ q, q = M.length := ⟨_, rfl⟩
  rw [← hp] at h1 e1
  rw [← hq] at h2 e2
  have d1 : decide ((200 : Int) < (p : Int)) = false := by simp; omega
  have d1' : decide (200 < p) = false := by simp; omega
  have d2 : decide ((200 : Int) < (q : Int)) = false := by simp; omega
  have d2' : decide (200 < q) = false := by simp; omega
  have HXl := hide hXl
  clear hT hF hn hA hp hq hXl hAl h1 h2
  go_enter Tryd.func9, Tryd.ntmps9
  go_wp2_with fail
  generalize (w.alloc (.cells (u8s X) 98)) = w0 at *
  refine HH.out.mono ?_
  rintro e w1 ⟨rfl, hb1⟩
  have HB1 := hide (keepB hb1 (Nat.le_refl _) HN.out)
  have HP1 := hide (below_blk hb1 (heap_lt HP.out) HP.out)
  clear hb1 HH HN HP
  go_wp2_with fail
  refine wp_region_keep (fun u => Below w.heap.size w u ∧ u.heap[w.heap.size]? = some (.cells (u8s X) 98 (0, 0))) (by kernel_rfl) (by kernel_rfl) ⟨HB1.out.drew, HP1.out⟩ ?_
  repeat (first
    | (refine keep_step (v := .agg (u8s X)) (by rfl) (fun u K hS hK => kUpon_load_mid 98 (.tmp 5) rfl w.heap.size 0 _ rfl (load_u 98 _ hS.2 Tryd.underlying98 rfl infoN HXl.out) (hK _ hS)) ?_
       simp only [Act.put, List.setIfInBounds_toArray, List.set_cons_zero, List.set_cons_succ])
    | (refine keep_step (v := ?_) (by rfl) (fun u K hS hK => ?_) ?_
       rotate_left
       · (go_simp; first
           | (go_at_call 45; refine (HA.out _ hS.1).mono ?_; rintro e u2 ⟨rfl, hu⟩; exact hK _ ⟨keepB hu (Nat.le_refl _) hS.1, below_blk hu (heap_lt hS.2) hS.2⟩)
           | (go_at_call 46; refine (HR.out _).mono ?_; rintro e u2 ⟨rfl, hu⟩; exact hK _ ⟨keepB hu (Nat.le_refl _) hS.1, below_blk hu (heap_lt hS.2) hS.2⟩)
           | (with_reducible exact hK _ hS))
       simp only [Act.put, List.setIfInBounds_toArray, List.set_cons_zero, List.set_cons_succ]))
  refine keep_nil (fun w2 hS2 => ?_)
  have HB2 := hide hS2.1
  clear hS2
  go_wp2
  go_ret
  exact ⟨rfl, HB2.out⟩
theorem walk_any (s t : ByteArray) (X : List Nat) (w : World) (hX : All8 X) (hXl : X.length = 16) (hT : Tbl w) (hF : Fst w) :
    Calls Tryd.prog 9 #[.string s, .string t, .agg (u8s X)] w fun e w' => e = .returned (.bool true) ∧ Below w.heap.size w w' := by
  by_cases hg : 200 < s.size ∨ 200 < t.size
  · exact out_walk s t X w hT hF hg
  · obtain ⟨S, hS, rfl, hSl⟩ := strN_of s
    obtain ⟨M, hM, rfl, hMl⟩ := strN_of t
    exact in_walk S M X w hS hM hX hXl hT hF (by omega) (by omega)
end Go.Proofs.YtifepgigkmhdaaaDoor.AuthAnswersW
