/- lock: free. -/
import Derived.Test.YtlhjkacdhfchiaaDoorLc
import Derived.Test.YtlhjkacdhfchiaaDoorRg
namespace Go.Proofs.YtlhjkacdhfchiaaDoor.Ld
set_option linter.unusedVariables false
set_option linter.unusedSimpArgs false
set_option maxRecDepth 100000
open Go.ChangeShapes Go.WideShapes Go.ChangeAt Go.RowKit
open Go.Proofs.YtlhjkacdhfchiaaDoor.Wu Go.Proofs.YtlhjkacdhfchiaaDoor.Rk Go.Proofs.YtlhjkacdhfchiaaDoor.Rg Go.Proofs.YtlhjkacdhfchiaaDoor.Ps Go.Proofs.YtlhjkacdhfchiaaDoor.La Go.Proofs.YtlhjkacdhfchiaaDoor.Lb Go.Proofs.YtlhjkacdhfchiaaDoor.Lc
attribute [local go_sem] kUpon_value kUpon_skip kUpon_enter
theorem inTheWay_c (n : Int) (a : Option Addr) (m c : Nat) (w : World) :
    Calls Tryd.prog 48 #[.agg #[.int .i64 n, .slice a m c]] w fun e w' => ∃ B, e = .returned (.func (.func 80) #[] #[.pointer (some ⟨B, 0, none⟩)]) ∧ w'.heap[B]? = some (.cells #[.int .i64 n, .slice a m c] 111 (0, 0)) ∧ Below w.heap.size w w' := by
  have HB := hide (below_new w (.cells #[.int .i64 n, .slice a m c] 111))
  have HH := hide (heap_last w (.cells #[.int .i64 n, .slice a m c] 111))
  go_enter Tryd.func48, Tryd.ntmps48
  go_wp2
  go_ret
  exact ⟨_, rfl, HH.out, HB.out⟩
theorem IsAs.take {w : World} {a : Option Addr} {m c i : Nat} {us : List La.Ask} (h : IsAs w a m c us) (hi : i ≤ m) : IsAs w a i c (us.take i) := by
  obtain ⟨h1, h2, h3, g, off, h4, h5⟩ := h
  exact ⟨by rw [List.length_take]; omega, by omega, h3, g, off, fun h => h4 (by omega), fun k u hk => h5 k u (by
    have hl := (List.getElem?_eq_some_iff.1 hk).1
    rw [List.length_take] at hl
    rwa [List.getElem?_take_of_lt (by omega)] at hk)⟩
theorem Txs.take {w : World} {us : List La.Ask} {Ts : List (List (List UInt8))} (h : Txs w us Ts) (i : Nat) : Txs w (us.take i) (Ts.take i) := ⟨by rw [List.length_take, List.length_take, h.1], fun k u t h1 h2 => by
  have hl := (List.getElem?_eq_some_iff.1 h1).1
  rw [List.length_take] at hl
  rw [List.getElem?_take_of_lt (by omega)] at h1 h2
  exact h.2 k u t h1 h2⟩
/-- The stages of free's region. -/
def FS (w0 : World) (A : La.Ask) : List Value → World → Prop
  | [], u => Below w0.heap.size w0 u
  | [p], u => Below w0.heap.size w0 u ∧ ∃ B, p = .func (.func 80) #[] #[.pointer (some ⟨B, 0, none⟩)] ∧ u.heap[B]? = some (.cells #[.int .i64 A.1, pv A] 111 (0, 0))
  | _, _ => False
theorem FS.base {w0 : World} {A : La.Ask} {h : List Value} {u : World} (H : FS w0 A h u) : Below w0.heap.size w0 u := by
  match h, H with
  | [], H => exact H
  | [_], H => exact H.1
theorem FS.up {w0 : World} {A : La.Ask} {h : List Value} {u u' : World} (H : FS w0 A h u) (hb : Below u.heap.size u u') : FS w0 A h u' := by
  match h, H with
  | [], H => exact keepB hb (Nat.le_refl _) H
  | [_], ⟨h1, B, h2, h3⟩ => exact ⟨keepB hb (Nat.le_refl _) h1, B, h2, below_blk hb (heap_lt h3) h3⟩
set_option maxHeartbeats 3200000 in
theorem free_c (Q : Nat) (T : TypeId) (a : Option Addr) (m c i : Nat) (us : List La.Ask) (Ts : List (List (List UInt8))) (t : List (List UInt8)) (w : World) (hQ : w.heap[Q]? = some (.cells #[.slice a m c] T (0, 0))) (hu : IsAs w a m c us) (ht : Txs w us Ts) (hi : Ts[i]? = some t) :
    Calls Tryd.prog 45 #[.pointer (some ⟨Q, 0, none⟩), .int .i64 (i : Int)] w fun e w' => e = .returned (.bool (!((Ts.take i).any (way t)))) ∧ Below w.heap.size w w' := by
  have hlen := hu.1
  have him : i < m := by
    have := (List.getElem?_eq_some_iff.1 hi).1
    rw [ht.1, hlen] at this
    exact this
  obtain ⟨u0, hui⟩ : ∃ u, us[i]? = some u := ⟨us[i]'(by rw [hlen]; exact him), by rw [List.getElem?_eq_getElem]⟩
  have HT := hide (ht.2 i u0 t hui hi)
  have HQ := hide (fun (u : World) (hb : Below w.heap.size w u) => blk_cell (i := 0) (below_blk hb (heap_lt hQ) hQ) rfl)
  have HI := hide (fun (u : World) (hb : Below w.heap.size w u) => (⟨IsAs.take (hu.below hb) (Nat.le_of_lt him), Txs.take (ht.below hb) i, HT.out.1.below hb⟩ : _ ∧ _ ∧ _))
  obtain ⟨-, hmc, hcm, g, off, ha, hcell⟩ := hu
  obtain rfl := ha (by omega)
  have HC := hide (fun (u : World) (hb : Below w.heap.size w u) => (⟨keepC hb (Nat.le_refl _) (hcell i u0 hui).1, keepC hb (Nat.le_refl _) (hcell i u0 hui).2⟩ : _ ∧ _))
  obtain ⟨nn, aa, mm, cc⟩ := u0
  unfold pv at HC
  have i1 : (0 : Int) ≤ (i : Int) := by omega
  have i2 : (i : Int) < (m : Int) := by omega
  have i3 : (i : Int) ≤ (c : Int) := by omega
  obtain ⟨z, hz⟩ : ∃ z, z = (Ts.take i).any (way t) := ⟨_, rfl⟩
  have HZ := hide hz
  rw [← hz]
  clear hz hcell hui hi ht hQ ha hlen
  go_enter Tryd.func45, Tryd.ntmps45
  go_wp2_with fail
  refine wp_region_g (FS w (nn, aa, mm, cc))
    [some (some (.pointer (some ⟨Q, 0, none⟩))), some (some (.pointer (some ⟨Q, 0, none⟩))), some (some (.pointer (some ⟨Q, 0, none⟩))), some (some (.slice (some ⟨g, off, none⟩) m c)), some (some (.int .i64 (i : Int))), some (some (.slice (some ⟨g, off, none⟩) i c)),
     some (some (.pointer (some ⟨Q, 0, none⟩))), some (some (.pointer (some ⟨Q, 0, none⟩))), some (some (.pointer (some ⟨Q, 0, none⟩))), some (some (.slice (some ⟨g, off, none⟩) m c)), some (some (.int .i64 (i : Int))), some (some (.pointer (some ⟨g, off + i * 2, none⟩))),
     some (some (.agg #[.int .i64 nn, .slice aa mm cc])), none, some none, some none, some none] (by kernel_rfl) (by kernel_rfl) [13] [13, 14, 15, 16] rfl rfl (by kernel_rfl) (Below.refl _ _).drew ?_
  iterate 13
    (refine gF_step (by rfl) (fun h u K hT hK => ?_) ?_
     · have cq := HQ.out u hT.base
       obtain ⟨c0, c1⟩ := HC.out u hT.base
       go_simp
       with_reducible exact hK _ hT
     simp only [Act.put, List.setIfInBounds_toArray, List.set_cons_zero, List.set_cons_succ])
  refine gD_step (fun p => ∃ B, p = .func (.func 80) #[] #[.pointer (some ⟨B, 0, none⟩)]) ⟨_, 0, rfl⟩ (by rfl) (fun u K hT hK => ?_) (fun p hp => ?_)
  · have hT0 : Below w.heap.size w u := hT
    go_simp
    go_at_call 48
    (with_reducible refine Calls.mono (inTheWay_c nn aa mm cc u) ?_)
    rintro e u2 ⟨B, rfl, hB, hu⟩
    exact hK _ _ ⟨B, rfl⟩ ⟨keepB hu (Nat.le_refl _) hT0, B, rfl, hB⟩
  obtain ⟨B, rfl⟩ := hp
  simp only [Act.put, List.setIfInBounds_toArray, List.set_cons_zero, List.set_cons_succ]
  refine gG_step (v := .bool z) (by rfl) (fun h' u K hT hK => ?_) ?_
  · have hT1 : ∃ B', (Value.func (.func 80) #[] #[.pointer (some ⟨B, 0, none⟩)]) = .func (.func 80) #[] #[.pointer (some ⟨B', 0, none⟩)] ∧ u.heap[B']? = some (.cells #[.int .i64 nn, .slice aa mm cc] 111 (0, 0)) := by
      match h', hT with
      | [], hT => exact hT.2
    obtain ⟨B', e, hB⟩ := hT1
    have e' : B = B' := by simpa using e
    subst e'
    obtain ⟨k1, k2, k3⟩ := HI.out u hT.base
    have hcf := contains_c nn (some ⟨g, off, none⟩) aa i c mm cc (us.take i) (Ts.take i) t B _ u k1 k2 hB k3 HT.out.2.1 HT.out.2.2.1 HT.out.2.2.2
    rw [← HZ.out] at hcf
    clear hB k1 k2 k3 e
    go_simp
    go_at_call 79
    (with_reducible refine Calls.mono hcf ?_)
    rintro e u2 ⟨rfl, hu⟩
    exact hK _ (hT.up hu)
  simp only [Act.put, List.setIfInBounds_toArray, List.set_cons_zero, List.set_cons_succ]
  iterate 2
    (refine gG_step (v := .bool (!z)) (by rfl) (fun h' u K hT hK => ?_) ?_
     · go_simp
       exact hK _ hT
     simp only [Act.put, List.setIfInBounds_toArray, List.set_cons_zero, List.set_cons_succ])
  refine g_nil (fun w8 hT8 => ?_)
  have HB8 := hide hT8.base
  clear hT8
  go_wp2
  go_ret
  exact ⟨rfl, HB8.out⟩
end Go.Proofs.YtlhjkacdhfchiaaDoor.Ld
