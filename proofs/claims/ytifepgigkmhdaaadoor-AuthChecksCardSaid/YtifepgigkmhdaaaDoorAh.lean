/- The reference's Check (layer 14). -/
import Derived.Test.YtifepgigkmhdaaaDoorPk
namespace Go.Proofs.YtifepgigkmhdaaaDoor.Ah
set_option linter.unusedVariables false
set_option linter.unusedSimpArgs false
set_option maxRecDepth 100000
open Go.ChangeShapes Go.WideShapes Go.ChangeAt Go.RowKit
open Go.Proofs.YtifepgigkmhdaaaDoor.Wu Go.Proofs.YtifepgigkmhdaaaDoor.Sm Go.Proofs.YtifepgigkmhdaaaDoor.Sh Go.Proofs.YtifepgigkmhdaaaDoor.Ba Go.Proofs.YtifepgigkmhdaaaDoor.Bp Go.Proofs.YtifepgigkmhdaaaDoor.Bs Go.Proofs.YtifepgigkmhdaaaDoor.Ab Go.Proofs.YtifepgigkmhdaaaDoor.Rk Go.Proofs.YtifepgigkmhdaaaDoor.Rx Go.Proofs.YtifepgigkmhdaaaDoor.Ac Go.Proofs.YtifepgigkmhdaaaDoor.Ad Go.Proofs.YtifepgigkmhdaaaDoor.Ae
open Go.Proofs.YtifepgigkmhdaaaDoor.Smc (macL)
attribute [local go_sem] kUpon_value kUpon_skip kUpon_enter
structure RB (w : World) (X Y : List Nat) (u : World) : Prop where
  below : Below w.heap.size w u
  non : u.heap[w.heap.size]? = some (.cells (u8s X) 97 (0, 0))
  ans : u.heap[w.heap.size + 1]? = some (.cells (u8s Y) 79 (0, 0))
theorem RB.up {w : World} {X Y : List Nat} {u u' : World} (h : RB w X Y u) (hb : Below u.heap.size u u') : RB w X Y u' :=
  ⟨keepB hb (Nat.le_refl _) h.below, below_blk hb (heap_lt h.non) h.non, below_blk hb (heap_lt h.ans) h.ans⟩
theorem RB.drew {w : World} {X Y : List Nat} {u : World} (h : RB w X Y u) : RB w X Y u.drew := ⟨h.below.drew, h.non, h.ans⟩
theorem find_take {us : List (ByteArray × ByteArray)} {nm : ByteArray} {k : Nat} {u : ByteArray × ByteArray} (h : us[k]? = some u) (hn : named nm u = true) (hb : ∀ x ∈ us.take k, named nm x = false) : us.find? (named nm) = some u := by
  rw [List.find?_eq_some_iff_append]
  obtain ⟨hk, he⟩ := List.getElem?_eq_some_iff.1 h
  refine ⟨hn, us.take k, us.drop (k + 1), ?_, fun x hx => by simp [hb x hx]⟩
  rw [← he, List.getElem_cons_drop, List.take_append_drop]
set_option maxHeartbeats 3200000 in
theorem refcheck_c (M : List Nat) (nm : ByteArray) (a : Option Addr) (m c : Nat) (us : List (ByteArray × ByteArray)) (X Y : List Nat) (w : World) (hu : IsUs w a m c us) (hM : All8 M) (hMl : M.length ≤ 1000) (hX : All8 X) (hXl : X.length = 16) (hYl : Y.length = 32) (hs : ∀ u ∈ us, u.2.size ≤ 1000) :
    Calls Tryd.prog 48 #[.slice a m c, .string (strN M), .string nm, .agg (u8s X), .agg (u8s Y)] w fun e w' => e = .returned (.int .i64 (chkE us nm M X Y)) ∧ Below w.heap.size w w' := by
  obtain ⟨hlen, hmc, hcm, g, off, ha, hcell⟩ := hu
  have H0 : Hid (RB w X Y ((w.alloc (.cells (u8s X) 97)).alloc (.cells (u8s Y) 79))) := hide ⟨((Below.refl w.heap.size w).alloc (Nat.le_refl _) _).alloc (by simp) _, heap_2a _ _ _, heap_2b _ _ _⟩
  have HL := hide hlen
  have HC := hide (fun i n s (h : us[i]? = some (n, s)) (u : World) (hb : Below w.heap.size w u) => (⟨keepC hb (Nat.le_refl _) (hcell i n s h).1, keepC hb (Nat.le_refl _) (hcell i n s h).2⟩ : _ ∧ _))
  have HA := hide (fun (S : List Nat) (h8 : All8 S) (hl : S.length ≤ 1000) (u : World) => refans_c S M X u h8 hM hX hXl hl hMl)
  have HS := hide hs
  have hinfo : Hid (X.length = 16 ∧ Y.length = 32) := hide ⟨hXl, hYl⟩
  clear hcell hlen hs hXl hYl
  obtain ⟨E, hE⟩ : ∃ E, E = chkE us nm M X Y := ⟨_, rfl⟩
  have HEq := hide hE
  rw [← hE]
  clear hE
  generalize strN M = SM at *
  go_enter Tryd.func48, Tryd.ntmps48
  go_wp2_with fail
  generalize ((w.alloc (.cells (u8s X) 97)).alloc (.cells (u8s Y) 79)) = w1 at *
  go_loopw [11] (fun j wr => ∃ k, j = .int .i64 ((k : Nat) : Int) ∧ k ≤ m ∧ Hid (∀ x ∈ us.take k, named nm x = false) ∧ wr = w1) (fun j _ => m - (intOf j).toNat)
  case atStart => exact ⟨0, rfl, Nat.zero_le _, (show ∀ x ∈ us.take 0, _ from by simp), rfl⟩
  case round =>
    obtain ⟨k, rfl, hk, HN, rfl⟩ := hrel
    by_cases hlt : k < m
    · obtain ⟨⟨n, s⟩, hks⟩ : ∃ u, us[k]? = some u := ⟨us[k]'(by rw [HL.out]; exact hlt), by rw [List.getElem?_eq_getElem]⟩
      obtain ⟨c0, c1⟩ := HC.out k n s hks _ H0.out.below
      have Hk := hide hks
      obtain rfl := ha (by omega)
      clear hks ha
      have d1 : decide ((k : Int) < (m : Int)) = true := by simpa using hlt
      have i1 : (0 : Int) ≤ (k : Int) := by omega
      have i2 : (k : Int) < (m : Int) := by omega
      cases hq : named nm (n, s) with
      | true =>
        have hsz := HS.out (n, s) (List.mem_of_getElem? Hk.out)
        have hf := find_take Hk.out hq HN.out
        have hnn : (n.toList == nm.toList) = true := hq
        obtain ⟨S, hS⟩ : ∃ S, S = s.data.toList.map UInt8.toNat := ⟨_, rfl⟩
        have hS8 : All8 S := by rw [hS]; exact nums8 s
        have hSl : S.length ≤ 1000 := by rw [hS, nums_len]; exact hsz
        have hss : s = strN S := by rw [hS]; exact strN_self s
        obtain ⟨A, hA⟩ : ∃ A, A = macL S (X ++ M) := ⟨_, rfl⟩
        have hAl : A.length = 32 := by rw [hA]; rfl
        have HE : Hid (chkE us nm M X Y = if Y = A then 0 else 140) := hide (by unfold chkE; rw [hf, hA, hS])
        have HAs := hide (fun u : World => HA.out S hS8 hSl u)
        rw [← hA, ← hss] at HAs
        have hqq := fun u : World => sum_eq A Y hAl hinfo.out.2 u
        have Hcs := hide (fun (u : World) (hb : Below w.heap.size w u) => (HC.out k n s Hk.out u hb).2)
        clear hq hf hss hS hA HN
        by_cases hYA : Y = A
        · have HE0 : Hid (E = 0) := hide (by rw [HEq.out, HE.out, if_pos hYA])
          rw [show decide (A = Y) = true by simp [hYA]] at hqq
          clear hYA
          go_wp2_with fail
          refine wp_region_keep (RB w X Y) (by kernel_rfl) (by kernel_rfl) H0.out.drew ?_
          repeat (first
            | (refine keep_step (v := .agg (u8s Y)) (by rfl) (fun u K hS hK => kUpon_load_mid 79 (.tmp 9) rfl (w.heap.size + 1) 0 _ rfl (load_u 79 _ hS.ans Tryd.underlying79 rfl infoS hinfo.out.2) (hK _ hS)) ?_
               simp only [Act.put, List.setIfInBounds_toArray, List.set_cons_zero, List.set_cons_succ])
            | (refine keep_step (v := .agg (u8s X)) (by rfl) (fun u K hS hK => kUpon_load_mid 97 (.tmp 8) rfl w.heap.size 0 _ rfl (load_u 97 _ hS.non Tryd.underlying97 rfl infoM hinfo.out.1) (hK _ hS)) ?_
               simp only [Act.put, List.setIfInBounds_toArray, List.set_cons_zero, List.set_cons_succ])
            | (refine keep_step (v := ?_) (by rfl) (fun u K hS hK => ?_) ?_
               rotate_left
               · have cs := Hcs.out u hS.below
                 (go_simp; first
                   | (go_at_call 46; (with_reducible refine Calls.mono (HAs.out _) ?_); rintro e u2 ⟨rfl, hu⟩; exact hK _ (hS.up hu))
                   | (with_reducible exact hK _ hS))
               simp only [Act.put, List.setIfInBounds_toArray, List.set_cons_zero, List.set_cons_succ]))
          refine keep_nil (fun w3 hS3 => ?_)
          have HB3 := hide hS3.below
          clear hS3
          go_wp2
          go_ret
          exact ⟨by rw [HE0.out]; rfl, HB3.out⟩
        · have HE0 : Hid (E = 140) := hide (by rw [HEq.out, HE.out, if_neg hYA])
          rw [show decide (A = Y) = false by simp; exact fun h => hYA h.symm] at hqq
          clear hYA
          go_wp2_with fail
          refine wp_region_keep (RB w X Y) (by kernel_rfl) (by kernel_rfl) H0.out.drew ?_
          repeat (first
            | (refine keep_step (v := .agg (u8s Y)) (by rfl) (fun u K hS hK => kUpon_load_mid 79 (.tmp 9) rfl (w.heap.size + 1) 0 _ rfl (load_u 79 _ hS.ans Tryd.underlying79 rfl infoS hinfo.out.2) (hK _ hS)) ?_
               simp only [Act.put, List.setIfInBounds_toArray, List.set_cons_zero, List.set_cons_succ])
            | (refine keep_step (v := .agg (u8s X)) (by rfl) (fun u K hS hK => kUpon_load_mid 97 (.tmp 8) rfl w.heap.size 0 _ rfl (load_u 97 _ hS.non Tryd.underlying97 rfl infoM hinfo.out.1) (hK _ hS)) ?_
               simp only [Act.put, List.setIfInBounds_toArray, List.set_cons_zero, List.set_cons_succ])
            | (refine keep_step (v := ?_) (by rfl) (fun u K hS hK => ?_) ?_
               rotate_left
               · have cs := Hcs.out u hS.below
                 (go_simp; first
                   | (go_at_call 46; (with_reducible refine Calls.mono (HAs.out _) ?_); rintro e u2 ⟨rfl, hu⟩; exact hK _ (hS.up hu))
                   | (with_reducible exact hK _ hS))
               simp only [Act.put, List.setIfInBounds_toArray, List.set_cons_zero, List.set_cons_succ]))
          refine keep_nil (fun w3 hS3 => ?_)
          have HB3 := hide hS3.below
          clear hS3
          go_wp2
          go_ret
          exact ⟨by rw [HE0.out]; rfl, HB3.out⟩
      | false =>
        have HNx : Hid (∀ x ∈ us.take (k + 1), named nm x = false) := hide (fun x hx => by
          rw [List.take_add_one, Hk.out] at hx
          rcases List.mem_append.1 hx with hx | hx
          · exact HN.out x hx
          · simp at hx; rw [hx]; exact hq)
        have hnn : (n.toList == nm.toList) = false := hq
        clear hq HN
        go_wp2
        go_roundw
        case rel => exact ⟨k + 1, by go_num, by omega, HNx, by trivial⟩
        case measure => simp [intOf]; omega
    · obtain rfl : k = m := by omega
      have d1 : decide ((k : Int) < (k : Int)) = false := by simp
      have HE0 : Hid (E = 140) := hide (by
        have hn := HN.out
        rw [List.take_of_length_le (by rw [HL.out]; exact Nat.le_refl _)] at hn
        have : us.find? (named nm) = none := List.find?_eq_none.2 (fun x hx => by simp [hn x hx])
        rw [HEq.out]
        unfold chkE
        rw [this])
      clear hk ha HN
      go_wp2
      go_ret
      exact ⟨by rw [HE0.out]; rfl, H0.out.below⟩
end Go.Proofs.YtifepgigkmhdaaaDoor.Ah
