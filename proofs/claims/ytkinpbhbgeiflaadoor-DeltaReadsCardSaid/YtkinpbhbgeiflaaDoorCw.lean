/- End and Text of the Reader at any state. -/
import Derived.Test.YtkinpbhbgeiflaaDoorCv
namespace Go.Proofs.YtkinpbhbgeiflaaDoor.Cv
set_option linter.unusedVariables false
set_option linter.unusedSimpArgs false
open Go.Proofs.YtkinpbhbgeiflaaDoor.Sm Go.Proofs.YtkinpbhbgeiflaaDoor.Cr Go.Proofs.YtkinpbhbgeiflaaDoor.Cv
theorem numP_max : ∀ (X : List Nat) (i n a k : Nat), numP X i n = .ok a k → a ≤ 1099511627776
  | [], i, n, a, k, h => by simp [numP] at h
  | x :: X, i, n, a, k, h => by
    unfold numP at h
    split at h
    · cases h
    · split at h
      · exact numP_max X _ _ _ _ h
      · split at h
        · cases h
        · rename_i hh
          simp only [NumR.ok.injEq] at h
          omega
theorem Rs.numV_max (s : Rs) (L : List Nat) : s.numV L ≤ 1099511627776 := by
  unfold Rs.numV
  split
  · split
    · rename_i h
      exact numP_max _ _ _ _ _ h
    · omega
  · omega
theorem Rs.num_at (s : Rs) (L : List Nat) (h : s.at_ ≤ L.length) : (s.num L).at_ ≤ L.length ∧ s.at_ ≤ (s.num L).at_ := by
  unfold Rs.num
  split
  · split
    · rename_i hn
      have := numP_fit _ _ _ _ _ hn
      rw [List.length_drop] at this
      simp only
      omega
    · exact ⟨h, Nat.le_refl _⟩
  · exact ⟨h, Nat.le_refl _⟩
/-- Text. -/
def Rs.mid (s : Rs) (L : List Nat) : Rs := if 4096 < s.numV L then ⟨(s.num L).at_, (s.at_ : Int), 2⟩ else s.num L
def Rs.pre (s : Rs) (L : List Nat) : Rs := (s.mid L).has L.length (s.numV L)
def Rs.text (s : Rs) (L : List Nat) : Rs := if (s.pre L).fe = 0 then ⟨(s.pre L).at_ + s.numV L, (s.pre L).fa, (s.pre L).fe⟩ else ⟨s.at_, (s.pre L).fa, (s.pre L).fe⟩
def Rs.textV (s : Rs) (L : List Nat) : List Nat := if (s.pre L).fe = 0 then (L.drop (s.num L).at_).take (s.numV L) else []
theorem Rs.pre_at (s : Rs) (L : List Nat) : (s.pre L).at_ = (s.num L).at_ := by
  unfold Rs.pre Rs.has Rs.mid
  split <;> split <;> rfl
theorem Rs.pre_nil (s : Rs) (L : List Nat) (h : L = []) : (s.pre L).fe ≠ 0 := by
  subst h
  have h2 : (s.num []).fe ≠ 0 := by
    unfold Rs.num
    by_cases h0 : s.fe = 0
    · rw [if_pos h0]; simp [numP]
    · rw [if_neg h0]; exact h0
  have h3 : (s.mid []).fe ≠ 0 := by
    unfold Rs.mid
    split
    · simp
    · exact h2
  unfold Rs.pre Rs.has
  rw [if_neg (fun h => h3 h.1)]
  exact h3
theorem Rs.pre_fits (s : Rs) (L : List Nat) (h : (s.pre L).fe = 0) : (s.num L).at_ + s.numV L ≤ L.length ∧ s.numV L ≤ 4096 := by
  unfold Rs.pre Rs.has at h
  by_cases hb : 4096 < s.numV L
  · unfold Rs.mid at h
    rw [if_pos hb] at h
    simp at h
  · have e : s.mid L = s.num L := by unfold Rs.mid; rw [if_neg hb]
    rw [e] at h
    by_cases hc : (s.num L).fe = 0 ∧ L.length < (s.num L).at_ + s.numV L
    · rw [if_pos hc] at h; simp at h
    · rw [if_neg hc] at h
      exact ⟨by omega, by omega⟩
end Go.Proofs.YtkinpbhbgeiflaaDoor.Cv
namespace Go.Proofs.YtkinpbhbgeiflaaDoor.Cw
set_option linter.unusedVariables false
set_option linter.unusedSimpArgs false
set_option maxRecDepth 100000
open Go.ChangeShapes Go.WideShapes Go.ChangeAt Go.RowKit
open Go.Proofs.YtkinpbhbgeiflaaDoor.Wu Go.Proofs.YtkinpbhbgeiflaaDoor.Sm Go.Proofs.YtkinpbhbgeiflaaDoor.Sh Go.Proofs.YtkinpbhbgeiflaaDoor.Ba Go.Proofs.YtkinpbhbgeiflaaDoor.Bp Go.Proofs.YtkinpbhbgeiflaaDoor.Bq Go.Proofs.YtkinpbhbgeiflaaDoor.Cm Go.Proofs.YtkinpbhbgeiflaaDoor.Cn Go.Proofs.YtkinpbhbgeiflaaDoor.Cr Go.Proofs.YtkinpbhbgeiflaaDoor.Cs Go.Proofs.YtkinpbhbgeiflaaDoor.Rk Go.Proofs.YtkinpbhbgeiflaaDoor.Ct Go.Proofs.YtkinpbhbgeiflaaDoor.Er Go.Proofs.YtkinpbhbgeiflaaDoor.Eu Go.Proofs.YtkinpbhbgeiflaaDoor.Cv
attribute [local go_sem] kUpon_value kUpon_skip kUpon_enter
/-- What End leaves: the error, and the reader. -/
def EndP (w : World) (g : Nat) (a : Option Addr) (m c : Nat) (s : Rs) (e : Ending) (w' : World) : Prop := ∃ v, e = .returned v ∧ (s.fe = 0 ∧ v = .nilIface ∨ s.fe ≠ 0 ∧ ∃ b, w.heap.size ≤ b ∧ v = .iface 99 (.pointer (some ⟨b, 0, none⟩)) ∧ w'.heap[b]? = some (.cells #[.int .i64 s.fa, .int .i64 s.fe] 30 (0, 0))) ∧ RdS w' g a m c s ∧ w.grownBy w' (some g)
theorem grown_below {w w1 w2 : World} {k : Option Nat} (h1 : w.grownBy w1 k) (h2 : Below w1.heap.size w1 w2) : w.grownBy w2 k :=
  ⟨h2.os.trans h1.os, h2.tape.trans h1.tape, h2.output.trans h1.output, Nat.le_trans h1.size h2.size, fun b hb hne => (h2.block b (Nat.lt_of_lt_of_le hb h1.size)).trans (h1.block b hb hne)⟩
theorem below_grown {w w1 : World} (h : Below w.heap.size w w1) (k : Option Nat) : w.grownBy w1 k := ⟨h.os, h.tape, h.output, h.size, fun b hb _ => h.block b hb⟩
theorem end_c (g : Nat) (a : Option Addr) (m c : Nat) (s : Rs) (w : World) (h : RdS w g a m c s) (hm : m ≤ 281474976710656) :
    Calls Tryd.prog 67 #[.pointer (some ⟨g, 0, none⟩)] w (EndP w g a m c (s.fin m)) := by
  have key : ∀ (s1 : Rs) (w1 : World), RdS w1 g a m c s1 → w.grownBy w1 (some g) → ∀ e w2, ErrP w1 s1 e w2 → EndP w g a m c s1 e w2 := by
    intro s1 w1 hr hg e w2 ⟨v, h1, h2, h3⟩
    refine ⟨v, h1, ?_, below_blk h3 (heap_lt hr) hr, grown_below hg h3⟩
    rcases h2 with h2 | ⟨h4, h5, h6⟩
    · exact .inl h2
    · exact .inr ⟨h4, _, hg.size, h5, h6⟩
  have HK := hide key
  clear key
  have H := hide h
  obtain ⟨c0, c1, c2, c3⟩ := h.cells
  have HS := hide (fun u (hu : RdS u g a m c s) => sound_c g a m c (s.at_ : Int) s.fa s.fe u hu)
  clear h
  by_cases hfe : s.fe = 0
  · by_cases hlt : s.at_ < m
    · have e1 : s.fin m = ⟨s.at_, (s.at_ : Int), 31⟩ := by unfold Rs.fin; rw [if_pos ⟨hfe, hlt⟩]
      rw [e1]
      clear e1
      obtain ⟨at_, fa, fe⟩ := s
      simp only at hfe hlt c1 c2 c3 HS H ⊢
      subst hfe
      have hd : decide ((at_ : Int) < (m : Int)) = true := by simp; omega
      have hd2 : decide (at_ < m) = true := by simp; omega
      go_enter Tryd.func67, Tryd.ntmps67
      go_wp2_with fail
      refine wp_region_keep (fun u => ∃ k, u = w.drewN k) (by kernel_rfl) (by kernel_rfl) ⟨1, rfl⟩ ?_
      repeat (first
        | (refine keep_step (v := ?_) (by rfl) (fun u K hS hK => ?_) ?_
           rotate_left
           · obtain ⟨nn, rfl⟩ := hS
             (go_simp; first
               | exact hK _ ⟨nn, rfl⟩
               | (go_at_call 97; refine (HS.out (w.drewN nn) H.out).mono ?_; rintro e u2 ⟨rfl, rfl⟩; exact hK _ ⟨nn, rfl⟩))
           simp only [Act.put, List.setIfInBounds_toArray, List.set_cons_zero, List.set_cons_succ]))
      refine keep_nil (fun w3 hS3 => ?_)
      obtain ⟨k3, rfl⟩ := hS3
      have H3 : Hid (Rd (w.drewN k3) g a m c (at_ : Int) fa 0) := H.out
      have HG3 : Hid (w.grownBy (w.drewN k3) (some g)) := grown_drewN w k3 g
      clear c0 c1 c2 c3 hd hd2
      generalize w.drewN k3 = w3 at *
      obtain ⟨c0, c1, c2, c3⟩ := H3.out.cells
      go_wp2_with fail
      refine (fail_c g a m c _ _ _ (at_ : Int) 31 w3 H3.out).mono ?_
      rintro e w4 ⟨rfl, hr, hg⟩
      have HR4 : Hid (RdS w4 g a m c ⟨at_, (at_ : Int), 31⟩) := hr
      have HG4 := hide (grown_trans HG3.out hg)
      clear c0 c1 c2 c3 hr hg
      go_wp2_with fail
      refine (err_c g a m c ⟨at_, (at_ : Int), 31⟩ w4 HR4.out).mono ?_
      intro e w5 hp
      have HP := hide (HK.out _ w4 HR4.out HG4.out e w5 hp)
      obtain ⟨v, rfl, _⟩ := hp
      go_wp2
      go_ret
      exact HP.out
    · have e1 : s.fin m = s := by unfold Rs.fin; rw [if_neg (fun h => hlt h.2)]
      rw [e1]
      clear e1
      obtain ⟨at_, fa, fe⟩ := s
      simp only at hfe hlt c1 c2 c3 HS H ⊢
      subst hfe
      have hd : decide ((at_ : Int) < (m : Int)) = false := by simp; omega
      have hd2 : decide (at_ < m) = false := by simp; omega
      go_enter Tryd.func67, Tryd.ntmps67
      go_wp2_with fail
      refine wp_region_keep (fun u => ∃ k, u = w.drewN k) (by kernel_rfl) (by kernel_rfl) ⟨1, rfl⟩ ?_
      repeat (first
        | (refine keep_step (v := ?_) (by rfl) (fun u K hS hK => ?_) ?_
           rotate_left
           · obtain ⟨nn, rfl⟩ := hS
             (go_simp; first
               | exact hK _ ⟨nn, rfl⟩
               | (go_at_call 97; refine (HS.out (w.drewN nn) H.out).mono ?_; rintro e u2 ⟨rfl, rfl⟩; exact hK _ ⟨nn, rfl⟩))
           simp only [Act.put, List.setIfInBounds_toArray, List.set_cons_zero, List.set_cons_succ]))
      refine keep_nil (fun w3 hS3 => ?_)
      obtain ⟨k3, rfl⟩ := hS3
      have H3 : Hid (RdS (w.drewN k3) g a m c ⟨at_, fa, 0⟩) := H.out
      have HG3 : Hid (w.grownBy (w.drewN k3) (some g)) := grown_drewN w k3 g
      clear c0 c1 c2 c3 hd hd2
      generalize w.drewN k3 = w3 at *
      go_wp2_with fail
      refine (err_c g a m c ⟨at_, fa, 0⟩ w3 H3.out).mono ?_
      intro e w5 hp
      have HP := hide (HK.out _ w3 H3.out HG3.out e w5 hp)
      obtain ⟨v, rfl, _⟩ := hp
      go_wp2
      go_ret
      exact HP.out
  · have e1 : s.fin m = s := by unfold Rs.fin; rw [if_neg (fun h => hfe h.1)]
    rw [e1]
    clear e1
    have hb : (s.fe == 0) = false := by simp [hfe]
    rw [hb] at HS
    clear hb hfe c0 c1 c2 c3
    go_enter Tryd.func67, Tryd.ntmps67
    go_wp2_with fail
    refine wp_region_keep (fun u => ∃ k, u = w.drewN k) (by kernel_rfl) (by kernel_rfl) ⟨1, rfl⟩ ?_
    repeat (first
      | (refine keep_not (by rfl) ?_
         simp only [Act.put, List.setIfInBounds_toArray, List.set_cons_zero, List.set_cons_succ])
      | (refine keep_step (v := ?_) (by rfl) (fun u K hS hK => ?_) ?_
         rotate_left
         · obtain ⟨nn, rfl⟩ := hS
           (go_simp; first
             | exact hK _ ⟨nn, rfl⟩
             | (go_at_call 97; refine (HS.out (w.drewN nn) H.out).mono ?_; rintro e u2 ⟨rfl, rfl⟩; exact hK _ ⟨nn, rfl⟩))
         simp only [Act.put, List.setIfInBounds_toArray, List.set_cons_zero, List.set_cons_succ]))
    refine keep_nil (fun w3 hS3 => ?_)
    obtain ⟨k3, rfl⟩ := hS3
    have H3 : Hid (RdS (w.drewN k3) g a m c s) := H.out
    have HG3 : Hid (w.grownBy (w.drewN k3) (some g)) := grown_drewN w k3 g
    generalize w.drewN k3 = w3 at *
    go_wp2_with fail
    refine (err_c g a m c s w3 H3.out).mono ?_
    intro e w5 hp
    have HP := hide (HK.out _ w3 H3.out HG3.out e w5 hp)
    obtain ⟨v, rfl, _⟩ := hp
    go_wp2
    go_ret
    exact HP.out
theorem EndP.isErr {w w' : World} {g : Nat} {a : Option Addr} {m c : Nat} {s : Rs} {e : Ending} (h : EndP w g a m c s e w') : ∃ v, e = .returned v ∧ IsErr w' v s.fe (if s.fe = 0 then -1 else s.fa) ∧ RdS w' g a m c s ∧ w.grownBy w' (some g) := by
  obtain ⟨v, h1, h2, h3⟩ := h
  refine ⟨v, h1, ?_, h3⟩
  rcases h2 with ⟨h4, h5⟩ | ⟨h4, b, _, h5, h6⟩
  · rw [if_pos h4]; exact .inl ⟨h5, h4, rfl⟩
  · rw [if_neg h4]; exact .inr (.inr ⟨_, _, _, h5, h6⟩)
theorem some_nil (ad : Addr) (m c : Nat) (u : World) : Sem.run Tryd.prog (binOp BinOp.eql 22 (.slice (some ad) m c) (.slice none 0 0)) u = .ok (.bool false) u := by kernel_rfl
/-- bytes.Clone of what is not nil. -/
theorem clone_some (ad : Addr) (m c : Nat) (L : List Nat) (w : World) (hs : SrcB w (some ad) m L) (hm : m ≤ 70368744177664) :
    Calls Tryd.prog 70 #[.slice (some ad) m c] w fun e w' => ∃ g cap, e = .returned (.slice (some ⟨g, 0, none⟩) m cap) ∧ w.heap.size ≤ g ∧ Dst w' g m cap L ∧ Below w.heap.size w w' := by
  have HS := hide (hs.below (below_new w (.cells #[] 5)))
  clear hs
  have HD0 : Hid (Dst (w.alloc (.cells #[] 5)) w.heap.size 0 0 []) := hide (dst_new w [] #[] 5 (0, 0) rfl (by intro x hx; cases hx) (by simp [maxLen]))
  have HN := hide (some_nil ad m c w)
  go_enter Tryd.func70, Tryd.ntmps70
  go_wp2_with fail
  rw [HN.out]
  go_wp2_with (refine wpList_append_dst rfl _ _ rfl w.heap.size 0 0 [] (some ad) m c L rfl rfl HD0.out HS.out (by omega) (fun h => by cases h) ?_)
  intro g cap w2 HD HG hgg HK
  refine of_hid ?_
  have hg : w.heap.size ≤ g := by
    rcases hgg with h | h
    · omega
    · omega
  have hb0 := below_new w (.cells #[] 5)
  have HB := hide (belowG hb0 HG.out (Nat.le_refl _) hb0.size)
  clear hb0
  go_wp2
  go_ret
  exact ⟨g, cap, rfl, hg, HD.out, HB.out⟩
def TextP (w : World) (g : Nat) (a : Option Addr) (m c : Nat) (s : Rs) (D : List Nat) (e : Ending) (w' : World) : Prop :=
  ∃ v, e = .returned v ∧ (s.fe ≠ 0 ∧ v = .slice none 0 0 ∧ D = [] ∨ s.fe = 0 ∧ ∃ b cap, v = .slice (some ⟨b, 0, none⟩) D.length cap ∧ w.heap.size ≤ b ∧ Dst w' b D.length cap D) ∧ RdS w' g a m c s ∧ w.grownBy w' (some g)
theorem src_kept {w w' : World} {a : Option Addr} {m g : Nat} {L : List Nat} (h : SrcB w a m L) (hg : w.grownBy w' (some g)) (hga : ∀ ad, a = some ad → 0 < m → ad.block ≠ g) : SrcB w' a m L := by
  obtain ⟨hl, h8, b, off, ha, hc⟩ := h
  refine ⟨hl, h8, b, off, ha, fun i hi => ?_⟩
  have e := ha (by omega)
  rw [World.cell?_of_block (a := ⟨b, off + i, none⟩) (hg.block b (cell_lt (hc i hi)) (fun e' => hga _ e (by omega) (by injection e')))]
  exact hc i hi
theorem src_mid {w : World} {a : Option Addr} {m : Nat} {L : List Nat} (h : SrcB w a m L) (i n : Nat) (hi : i + n ≤ m) : SrcB w (a.map (·.add i)) n ((L.drop i).take n) := by
  obtain ⟨hl, h8, b, off, ha, hc⟩ := h
  refine ⟨by rw [List.length_take, List.length_drop]; omega, all8_take (all8_drop h8 _) _, b, off + i, fun h0 => ?_, fun j hj => ?_⟩
  · rw [ha (by omega)]; simp [Addr.add_mid]
  · rw [Nat.add_assoc, hc (i + j) (by omega)]
    simp only [List.getD, List.getElem?_take_of_lt hj, List.getElem?_drop]
set_option maxHeartbeats 1600000 in
theorem text_c (g : Nat) (a : Option Addr) (m c : Nat) (L : List Nat) (s : Rs) (w : World) (h : RdS w g a m c s) (hs : SrcB w a m L) (hga : ∀ ad, a = some ad → 0 < m → ad.block ≠ g) (hnil : a = none → m = 0) (hat : s.at_ ≤ m) (hmc : m ≤ c) (hm : m ≤ 70368744177664) :
    Calls Tryd.prog 76 #[.pointer (some ⟨g, 0, none⟩)] w (TextP w g a m c (s.text L) (s.textV L)) := by
  have hLm := hs.1
  have hnm := Rs.numV_max s L
  have hna := Rs.num_at s L (by omega)
  have hpa := Rs.pre_at s L
  have hpf := Rs.pre_fits s L
  have hpn : m = 0 → (s.pre L).fe ≠ 0 := fun h0 => Rs.pre_nil s L (List.length_eq_zero_iff.1 (by omega))
  rw [hLm] at hna hpf
  have HN := hide (num_c g a m c L s w h hs hat hmc (by omega))
  have HH : Hid (∀ u, RdS u g a m c (s.mid L) → Calls Tryd.prog 105 #[.pointer (some ⟨g, 0, none⟩), .int .i64 ((s.numV L : Nat) : Int)] u (RdP u g a m c (s.pre L) (.bool (decide ((s.pre L).fe = 0))))) := fun u hu => by
    have := has_c g a m c (s.numV L) (s.mid L) u hu (by omega) (by unfold Rs.mid; split <;> exact hna.1) (by omega)
    unfold Rs.pre
    rw [hLm]
    exact this
  have HS := hide hs
  obtain ⟨c0, c1, c2, c3⟩ := h.cells
  clear h hs
  have Hmid1 : Hid (4096 < s.numV L → s.mid L = ⟨(s.num L).at_, (s.at_ : Int), 2⟩) := fun h => by unfold Rs.mid; rw [if_pos h]
  have Hmid2 : Hid (¬ 4096 < s.numV L → s.mid L = s.num L) := fun h => by unfold Rs.mid; rw [if_neg h]
  have Hgoal : Hid (∀ e w', (∃ v, e = .returned v ∧ ((s.pre L).fe ≠ 0 ∧ v = .slice none 0 0 ∧ RdS w' g a m c ⟨s.at_, (s.pre L).fa, (s.pre L).fe⟩ ∨ (s.pre L).fe = 0 ∧ RdS w' g a m c ⟨(s.num L).at_ + s.numV L, (s.pre L).fa, (s.pre L).fe⟩ ∧ ∃ b cap, v = .slice (some ⟨b, 0, none⟩) (s.numV L) cap ∧ w.heap.size ≤ b ∧ Dst w' b (s.numV L) cap ((L.drop (s.num L).at_).take (s.numV L))) ∧ w.grownBy w' (some g)) → TextP w g a m c (s.text L) (s.textV L) e w') := by
    intro e w' ⟨v, h1, h2, h3⟩
    refine ⟨v, h1, ?_, ?_, h3⟩
    · rcases h2 with ⟨h4, h5, _⟩ | ⟨h4, h5, b, cap, h6, h7, h8⟩
      · unfold Rs.text Rs.textV
        rw [if_neg h4, if_neg h4]
        exact .inl ⟨h4, h5, rfl⟩
      · unfold Rs.text Rs.textV
        rw [if_pos h4, if_pos h4]
        have hl : ((L.drop (s.num L).at_).take (s.numV L)).length = s.numV L := h8.len
        exact .inr ⟨h4, b, cap, by rw [hl]; exact h6, h7, by rw [hl]; exact h8⟩
    · rcases h2 with ⟨h4, h5, h6⟩ | ⟨h4, h5, b, cap, h6, h7, h8⟩
      · unfold Rs.text; rw [if_neg h4]; exact h6
      · unfold Rs.text; rw [if_pos h4, hpa]; exact h5
  refine Calls.mono ?_ Hgoal.out
  clear Hgoal
  obtain ⟨s0, fa0, fe0⟩ := s
  simp only at c1 c2 c3 hat hna Hmid1 ⊢
  generalize Rs.numV ⟨s0, fa0, fe0⟩ L = n at *
  generalize Rs.num ⟨s0, fa0, fe0⟩ L = s1 at *
  generalize Rs.mid ⟨s0, fa0, fe0⟩ L = s2 at *
  generalize Rs.pre ⟨s0, fa0, fe0⟩ L = s3 at *
  obtain ⟨at1, fa1, fe1⟩ := s1
  obtain ⟨at3, fa3, fe3⟩ := s3
  simp only at hpf hpa hpn hna HH Hmid1 Hmid2 ⊢
  subst hpa
  go_enter Tryd.func76, Tryd.ntmps76
  go_wp2_with fail
  refine HN.out.mono ?_
  rintro e w1 ⟨rfl, h1, hg1⟩
  have H1 := hide h1
  have HG1 := hide hg1
  have HS1 := hide (src_kept HS.out hg1 hga)
  clear h1 hg1 HN HS c0 c1 c2 c3
  have K2 : Hid (∃ w2, RdS w2 g a m c s2 ∧ w.grownBy w2 (some g) ∧ True) → True := fun _ => trivial
  by_cases hbig : 4096 < n
  · have hd : decide ((4096 : Int) < (n : Int)) = true := by simp; omega
    have e2 := Hmid1.out hbig
    subst e2
    have hfe3 : ¬ fe3 = 0 := fun h0 => by have := hpf h0; omega
    rw [decide_eq_false hfe3] at HH
    have Hfe3 := hide hfe3
    clear hfe3 hpf hpn hnil hbig K2
    go_wp2_with fail
    refine (fail_c g a m c _ _ _ (s0 : Int) 2 w1 H1.out).mono ?_
    rintro e w2 ⟨rfl, hr2, hg2⟩
    have H2 := hide hr2
    have HG2 := hide (grown_trans HG1.out hg2)
    clear hr2 hg2 H1 HG1 HS1
    go_wp2_with fail
    refine (HH.out w2 H2.out).mono ?_
    rintro e w3 ⟨rfl, hr3, hg3⟩
    have H3 := hide hr3
    have HG3 := hide (grown_trans HG2.out hg3)
    obtain ⟨c0, c1, c2, c3⟩ := hr3.cells
    have f1 := hr3.free 1
    clear hr3 hg3 H2 HG2 HH
    go_wp2
    go_ret
    exact ⟨_, rfl, .inl ⟨Hfe3.out, rfl, H3.out.setAt _⟩, grown_setCell HG3.out 1 _⟩
  · have hd : decide ((4096 : Int) < (n : Int)) = false := by simp; omega
    have e2 := Hmid2.out hbig
    subst e2
    by_cases hfe3 : fe3 = 0
    · have hfit := hpf hfe3
      obtain ⟨ad, rfl⟩ : ∃ ad, a = some ad := by
        cases a with
        | none => exact absurd hfe3 (hpn (hnil rfl))
        | some ad => exact ⟨ad, rfl⟩
      rw [decide_eq_true hfe3] at HH
      have Hfe3 := hide hfe3
      clear hfe3 hpf hpn hnil K2
      go_wp2_with fail
      refine (HH.out w1 H1.out).mono ?_
      rintro e w3 ⟨rfl, hr3, hg3⟩
      have H3 := hide hr3
      have HG3 := hide (grown_trans HG1.out hg3)
      have HS3 := hide (src_kept HS1.out hg3 hga)
      clear hr3 hg3 H1 HG1 HH HS1
      go_wp2_with fail
      refine (next_c g (some ad) m c at3 n fa3 fe3 w3 H3.out hfit.1 hmc (by omega)).mono ?_
      rintro e w4 ⟨A', hA', rfl, hr4, hg4⟩
      have H4 := hide hr4
      have HG4 := hide (grown_trans HG3.out hg4)
      have hs4 := src_mid (src_kept HS3.out hg4 hga) at3 n hfit.1
      obtain ⟨ad', hA2, hs5⟩ : ∃ ad', A' = some ad' ∧ SrcB w4 (some ad') n ((L.drop at3).take n) := by
        by_cases hc : c = at3
        · rw [if_pos hc] at hA'
          have hn0 : n = 0 := by omega
          subst hn0
          exact ⟨ad, hA', by rw [List.take_zero]; exact SrcB.nil _ _⟩
        · rw [if_neg hc] at hA'
          exact ⟨ad.add at3, hA', by simpa using hs4⟩
      subst hA2
      clear hA' hs4
      have HS5 := hide hs5
      clear hr4 hg4 H3 HG3 HS3 hs5
      go_wp2_with fail
      refine (clone_some ad' n (c - at3) _ w4 HS5.out (by omega)).mono ?_
      rintro e w5 ⟨b, cap, rfl, hb, hd5, hb5⟩
      have HD5 := hide hd5
      have HG5 := hide (grown_below HG4.out hb5)
      have H5 := hide (below_blk hb5 (heap_lt H4.out) H4.out)
      have hb' : w.heap.size ≤ b := Nat.le_trans HG4.out.size hb
      clear hd5 hb5 H4 HG4 hb
      go_wp2
      go_ret
      exact ⟨_, rfl, .inr ⟨Hfe3.out, H5.out, b, cap, rfl, hb', HD5.out⟩, HG5.out⟩
    · rw [decide_eq_false hfe3] at HH
      have Hfe3 := hide hfe3
      clear hfe3 hpf hpn hnil K2
      go_wp2_with fail
      refine (HH.out w1 H1.out).mono ?_
      rintro e w3 ⟨rfl, hr3, hg3⟩
      have H3 := hide hr3
      have HG3 := hide (grown_trans HG1.out hg3)
      obtain ⟨c0, c1, c2, c3⟩ := hr3.cells
      have f1 := hr3.free 1
      clear hr3 hg3 H1 HG1 HH HS1
      go_wp2
      go_ret
      exact ⟨_, rfl, .inl ⟨Hfe3.out, rfl, H3.out.setAt _⟩, grown_setCell HG3.out 1 _⟩
end Go.Proofs.YtkinpbhbgeiflaaDoor.Cw
