/- The Reader at any state, as a machine in plain numbers: has, Byte, Num, Err, End, At. -/
import Derived.Test.YtkinpbhbgeiflaaDoorCt
import Derived.Test.YtkinpbhbgeiflaaDoorEu
namespace Go.Proofs.YtkinpbhbgeiflaaDoor.Cv
set_option linter.unusedVariables false
set_option linter.unusedSimpArgs false
set_option maxRecDepth 100000
open Go.ChangeShapes Go.WideShapes Go.ChangeAt Go.RowKit
open Go.Proofs.YtkinpbhbgeiflaaDoor.Wu Go.Proofs.YtkinpbhbgeiflaaDoor.Sm Go.Proofs.YtkinpbhbgeiflaaDoor.Sh Go.Proofs.YtkinpbhbgeiflaaDoor.Ba Go.Proofs.YtkinpbhbgeiflaaDoor.Bp Go.Proofs.YtkinpbhbgeiflaaDoor.Bq Go.Proofs.YtkinpbhbgeiflaaDoor.Cm Go.Proofs.YtkinpbhbgeiflaaDoor.Cn Go.Proofs.YtkinpbhbgeiflaaDoor.Cr Go.Proofs.YtkinpbhbgeiflaaDoor.Cs Go.Proofs.YtkinpbhbgeiflaaDoor.Rk Go.Proofs.YtkinpbhbgeiflaaDoor.Ct Go.Proofs.YtkinpbhbgeiflaaDoor.Er Go.Proofs.YtkinpbhbgeiflaaDoor.Eu
attribute [local go_sem] kUpon_value kUpon_skip kUpon_enter
/-- Where a reader is, and what went wrong where. -/
structure Rs where
  at_ : Nat
  fa : Int
  fe : Int
abbrev RdS (w : World) (g : Nat) (a : Option Addr) (m c : Nat) (s : Rs) : Prop := Rd w g a m c (s.at_ : Int) s.fa s.fe
def Rs.has (s : Rs) (m n : Nat) : Rs := if s.fe = 0 ∧ m < s.at_ + n then ⟨s.at_, (m : Int), 30⟩ else s
def Rs.byte (s : Rs) (L : List Nat) : Rs := if (s.has L.length 1).fe = 0 then ⟨s.at_ + 1, s.fa, s.fe⟩ else s.has L.length 1
def Rs.byteV (s : Rs) (L : List Nat) : Nat := if (s.has L.length 1).fe = 0 then L.getD s.at_ 0 else 0
def Rs.num (s : Rs) (L : List Nat) : Rs := if s.fe = 0 then (match numP (L.drop s.at_) 0 0 with
  | .ok _ k => ⟨s.at_ + k, s.fa, s.fe⟩
  | .bad code => ⟨s.at_, if code = 30 then (L.length : Int) else (s.at_ : Int), (code : Int)⟩) else s
def Rs.numV (s : Rs) (L : List Nat) : Nat := if s.fe = 0 then (match numP (L.drop s.at_) 0 0 with
  | .ok n _ => n
  | .bad _ => 0) else 0
def Rs.fin (s : Rs) (m : Nat) : Rs := if s.fe = 0 ∧ s.at_ < m then ⟨s.at_, (s.at_ : Int), 31⟩ else s
theorem grown_drewN (w : World) (k g : Nat) : w.grownBy (w.drewN k) (some g) := ⟨rfl, rfl, rfl, Nat.le_refl _, fun _ _ _ => rfl⟩
/-- A value, the reader at a state, and nothing else has changed that was there. -/
def RdP (w : World) (g : Nat) (a : Option Addr) (m c : Nat) (s : Rs) (v : Value) (e : Ending) (w' : World) : Prop := e = .returned v ∧ RdS w' g a m c s ∧ w.grownBy w' (some g)
theorem has_no (g : Nat) (a : Option Addr) (m c : Nat) (n at_ fa fe : Int) (w : World) (h : Rd w g a m c at_ fa fe) (hfe : ¬ fe = 0) :
    Calls Tryd.prog 105 #[.pointer (some ⟨g, 0, none⟩), .int .i64 n] w fun e w' => e = .returned (.bool false) ∧ ∃ k, w' = w.drewN k := by
  have H := hide h
  have hb : (fe == 0) = false := by simp [hfe]
  have HS := hide (fun u (hu : Rd u g a m c at_ fa fe) => sound_c g a m c at_ fa fe u hu)
  rw [hb] at HS
  clear h hfe hb
  go_enter Tryd.func105, Tryd.ntmps105
  go_wp2_with fail
  refine wp_region_keep (fun u => ∃ k, u = w.drewN k) (by kernel_rfl) (by kernel_rfl) ⟨1, rfl⟩ ?_
  repeat (first
    | (refine keep_not (by rfl) ?_
       simp only [Act.put, List.setIfInBounds_toArray, List.set_cons_zero, List.set_cons_succ])
    | (refine keep_step (v := ?_) (by rfl) (fun u K hS hK => ?_) ?_
       rotate_left
       · obtain ⟨nn, rfl⟩ := hS
         (go_simp; first
           | exact hK _ ⟨nn, rfl⟩
           | (go_at_call 97; refine (HS.out (w.drewN nn) H.out).mono ?_; rintro e u2 ⟨rfl, rfl⟩; exact hK _ ⟨nn, rfl⟩))
       simp only [Act.put, List.setIfInBounds_toArray, List.set_cons_zero, List.set_cons_succ]))
  refine keep_nil (fun w3 hS3 => ?_)
  obtain ⟨k3, rfl⟩ := hS3
  have H3 : Hid (Rd (w.drewN k3) g a m c at_ fa fe) := H.out
  have HW : Hid (∃ k, w.drewN k3 = w.drewN k) := ⟨k3, rfl⟩
  generalize w.drewN k3 = w3 at *
  go_wp2_with fail
  refine (HS.out w3 H3.out).mono ?_
  rintro e w4 ⟨rfl, rfl⟩
  go_wp2
  go_ret
  exact ⟨rfl, HW.out⟩
theorem has_some (g : Nat) (a : Option Addr) (m c at_ n : Nat) (fa : Int) (ok : Bool) (w : World) (h : Rd w g a m c (at_ : Int) fa 0) (hm : m ≤ 281474976710656) (hat : at_ ≤ m) (hn : n ≤ 281474976710656) (hok : decide (at_ + n ≤ m) = ok) :
    Calls Tryd.prog 105 #[.pointer (some ⟨g, 0, none⟩), .int .i64 (n : Int)] w fun e w' => e = .returned (.bool ok) ∧ Rd w' g a m c (at_ : Int) (if ok then fa else (m : Int)) (if ok then 0 else 30) ∧ w.grownBy w' (some g) := by
  have H := hide h
  obtain ⟨c0, c1, c2, c3⟩ := h.cells
  have HS := hide (fun u (hu : Rd u g a m c (at_ : Int) fa 0) => sound_c g a m c (at_ : Int) fa 0 u hu)
  clear h
  have hw : IntKind.i64.wrap ((m : Int) - (at_ : Int)) = (m : Int) - (at_ : Int) := IntWalk.i64_in _ (by omega)
  have hd : decide ((m : Int) - (at_ : Int) < (n : Int)) = !ok := by
    rw [← hok]
    by_cases h : at_ + n ≤ m
    · have : ¬ (m : Int) - (at_ : Int) < (n : Int) := by omega
      simp [h, this]
    · have : (m : Int) - (at_ : Int) < (n : Int) := by omega
      simp [h, this]
  clear hok
  cases ok
  all_goals
    simp only [Bool.not_true, Bool.not_false] at hd
    go_enter Tryd.func105, Tryd.ntmps105
    go_wp2_with fail
    refine wp_region_keep (fun u => ∃ k, u = w.drewN k) (by kernel_rfl) (by kernel_rfl) ⟨1, rfl⟩ ?_
    repeat (first
      | (refine keep_step (v := ?_) (by rfl) (fun u K hS hK => ?_) ?_
         rotate_left
         · obtain ⟨nn, rfl⟩ := hS
           (go_simp; first
             | exact hK _ ⟨nn, rfl⟩
             | (go_at_call 97; refine (HS.out (w.drewN nn) H.out).mono ?_; rintro e u2 ⟨rfl, rfl⟩; exact hK _ ⟨nn, rfl⟩))
         simp only [Act.put, List.setIfInBounds_toArray, List.set_cons_zero, List.set_cons_succ]))
    refine keep_nil (fun w3 hS3 => ?_)
    obtain ⟨k3, rfl⟩ := hS3
    have H3 : Hid (Rd (w.drewN k3) g a m c (at_ : Int) fa 0) := H.out
    clear c0 c1 c2 c3 hw hd
    have HG : Hid (w.grownBy (w.drewN k3) (some g)) := grown_drewN w k3 g
    generalize w.drewN k3 = w3 at *
  · obtain ⟨c0, c1, c2, c3⟩ := H3.out.cells
    go_wp2_with fail
    refine (fail_c g a m c _ _ _ (m : Int) 30 w3 H3.out).mono ?_
    rintro e w4 ⟨rfl, hr, hg⟩
    have HR4 := hide hr
    have HG4 := hide (grown_trans HG.out hg)
    clear c0 c1 c2 c3 hr hg
    go_wp2_with fail
    refine (sound_c g a m c _ _ _ w4 HR4.out).mono ?_
    rintro e w5 ⟨rfl, rfl⟩
    go_wp2
    go_ret
    exact ⟨rfl, HR4.out, HG4.out⟩
  · go_wp2_with fail
    refine (HS.out w3 H3.out).mono ?_
    rintro e w4 ⟨rfl, rfl⟩
    go_wp2
    go_ret
    exact ⟨rfl, H3.out, HG.out⟩
theorem has_c (g : Nat) (a : Option Addr) (m c n : Nat) (s : Rs) (w : World) (h : RdS w g a m c s) (hm : m ≤ 281474976710656) (hat : s.at_ ≤ m) (hn : n ≤ 281474976710656) :
    Calls Tryd.prog 105 #[.pointer (some ⟨g, 0, none⟩), .int .i64 (n : Int)] w (RdP w g a m c (s.has m n) (.bool (decide ((s.has m n).fe = 0)))) := by
  obtain ⟨at_, fa, fe⟩ := s
  simp only at hat
  by_cases hfe : fe = 0
  · subst hfe
    refine (has_some g a m c at_ n fa _ w h hm hat hn rfl).mono ?_
    rintro e w' ⟨rfl, h1, h2⟩
    by_cases hh : at_ + n ≤ m
    · have e1 : Rs.has ⟨at_, fa, 0⟩ m n = ⟨at_, fa, 0⟩ := by unfold Rs.has; rw [if_neg (by simp only; omega)]
      rw [e1]
      simp only [hh, decide_true] at h1 ⊢
      exact ⟨by simp, h1, h2⟩
    · have e1 : Rs.has ⟨at_, fa, 0⟩ m n = ⟨at_, (m : Int), 30⟩ := by unfold Rs.has; rw [if_pos ⟨rfl, by simp only; omega⟩]
      rw [e1]
      simp only [hh, decide_false] at h1 ⊢
      exact ⟨by simp, h1, h2⟩
  · refine (has_no g a m c n at_ fa fe w h hfe).mono ?_
    rintro e w' ⟨rfl, k, rfl⟩
    have e1 : Rs.has ⟨at_, fa, fe⟩ m n = ⟨at_, fa, fe⟩ := by unfold Rs.has; rw [if_neg (fun h => hfe h.1)]
    rw [e1]
    exact ⟨by simp [hfe], h, grown_drewN w k g⟩
theorem at_c (g : Nat) (a : Option Addr) (m c : Nat) (s : Rs) (w : World) (h : RdS w g a m c s) :
    Calls Tryd.prog 80 #[.pointer (some ⟨g, 0, none⟩)] w fun e w' => e = .returned (.int .i64 (s.at_ : Int)) ∧ w = w' := by
  obtain ⟨at_, fa, fe⟩ := s
  obtain ⟨c0, c1, c2, c3⟩ := h.cells
  simp only at c1
  clear h
  go_enter Tryd.func80, Tryd.ntmps80
  go_wp2
  go_ret
  exact ⟨rfl, rfl⟩
/-- Byte. -/
theorem byte_c (g : Nat) (a : Option Addr) (m c : Nat) (L : List Nat) (s : Rs) (w : World) (h : RdS w g a m c s) (hs : SrcB w a m L) (hga : ∀ ad, a = some ad → 0 < m → ad.block ≠ g) (hat : s.at_ ≤ m) (hmc : m ≤ c) (hm : m ≤ 281474976710656) :
    Calls Tryd.prog 98 #[.pointer (some ⟨g, 0, none⟩)] w (RdP w g a m c (s.byte L) (.int .u8 ((s.byteV L : Nat) : Int))) := by
  have hLm := hs.1
  have HH := hide (has_c g a m c 1 s w h hm hat (by omega))
  have HS := hide hs
  clear h hs
  unfold Rs.byte Rs.byteV
  rw [hLm]
  by_cases hok : (s.has m 1).fe = 0
  · have hs1 : s.has m 1 = s ∧ s.at_ + 1 ≤ m := by
      unfold Rs.has at hok ⊢
      by_cases hc : s.fe = 0 ∧ m < s.at_ + 1
      · rw [if_pos hc] at hok; simp at hok
      · rw [if_neg hc] at hok
        rw [if_neg hc]
        exact ⟨rfl, by omega⟩
    obtain ⟨hs1, hs2⟩ := hs1
    rw [if_pos hok, if_pos hok]
    rw [hs1] at hok HH
    rw [decide_eq_true hok] at HH
    clear hs1
    obtain ⟨at_, fa, fe⟩ := s
    simp only at hok hs2 ⊢
    subst hok
    obtain ⟨z, hz⟩ : ∃ z, z = L.getD at_ 0 := ⟨_, rfl⟩
    rw [← hz]
    have Hz := hide hz
    clear hz
    go_enter Tryd.func98, Tryd.ntmps98
    go_wp2_with fail
    refine HH.out.mono ?_
    rintro e w1 ⟨rfl, h1, hg1⟩
    have H1 : Hid (Rd w1 g a m c (at_ : Int) fa 0) := h1
    have HG1 := hide hg1
    have HS1 : Hid (SrcB w1 a m L) := by
      obtain ⟨hl, h8, b, off, ha, hc⟩ := HS.out
      refine ⟨hl, h8, b, off, ha, fun i hi => ?_⟩
      have e := ha (by omega)
      rw [World.cell?_of_block (a := ⟨b, off + i, none⟩) (hg1.block b (cell_lt (hc i hi)) (fun e' => hga _ e (by omega) (by injection e')))]
      exact hc i hi
    clear h1 hg1 HH
    go_wp2_with fail
    refine (next_c g a m c at_ 1 fa 0 w1 H1.out (by omega) hmc hm).mono ?_
    rintro e w2 ⟨A', hA', rfl, hr2, hg2⟩
    have HR2 := hide hr2
    have HG2 := hide (grown_trans HG1.out hg2)
    obtain ⟨hl, h8, b, off, ha, hc⟩ := HS1.out
    obtain rfl := ha (by omega)
    rw [if_neg (by omega)] at hA'
    simp only [Option.map_some] at hA'
    have hcell : w2.cell? ⟨b, off + at_, none⟩ = some (.int .u8 ((L.getD at_ 0 : Nat) : Int)) := by
      have hc1 := hc at_ (by omega)
      rw [World.cell?_of_block (a := ⟨b, off + at_, none⟩) (hg2.block b (cell_lt hc1) (fun e => hga _ rfl (by omega) (by injection e)))]
      exact hc1
    rw [Addr.add_mid] at hA'
    subst hA'
    clear hr2 hg2 hc ha
    rw [← Hz.out] at hcell
    clear Hz
    go_wp2
    go_ret
    exact ⟨rfl, HR2.out, HG2.out⟩
  · rw [if_neg hok, if_neg hok]
    rw [decide_eq_false hok] at HH
    generalize s.has m 1 = s1 at *
    clear hok
    go_enter Tryd.func98, Tryd.ntmps98
    go_wp2_with fail
    refine HH.out.mono ?_
    rintro e w1 ⟨rfl, h1, hg1⟩
    have H1 := hide h1
    have HG1 := hide hg1
    clear h1 hg1
    go_wp2
    go_ret
    exact ⟨rfl, H1.out, HG1.out⟩
theorem numP_fit : ∀ (X : List Nat) (i n a k : Nat), numP X i n = .ok a k → k ≤ i + X.length
  | [], i, n, a, k, h => by simp [numP] at h
  | x :: X, i, n, a, k, h => by
    unfold numP at h
    split at h
    · cases h
    · split at h
      · have := numP_fit X _ _ _ _ h
        simp only [List.length_cons]; omega
      · split at h
        · cases h
        · simp only [NumR.ok.injEq] at h
          simp only [List.length_cons]; omega
/-- Num. -/
theorem num_c (g : Nat) (a : Option Addr) (m c : Nat) (L : List Nat) (s : Rs) (w : World) (h : RdS w g a m c s) (hs : SrcB w a m L) (hat : s.at_ ≤ m) (hmc : m ≤ c) (hm : m ≤ 281474976710656) :
    Calls Tryd.prog 64 #[.pointer (some ⟨g, 0, none⟩)] w (RdP w g a m c (s.num L) (.int .i64 ((s.numV L : Nat) : Int))) := by
  have hLm := hs.1
  obtain ⟨at_, fa, fe⟩ := s
  simp only at hat
  unfold Rs.num Rs.numV
  simp only
  by_cases hfe : fe = 0
  · subst hfe
    rw [if_pos rfl, if_pos rfl]
    cases hR : numP (L.drop at_) 0 0 with
    | ok n k =>
      have hfit := numP_fit _ _ _ _ _ hR
      rw [List.length_drop] at hfit
      refine (num_ok g a m c at_ L fa w n k h hs hat hmc hm hR (by omega)).mono ?_
      rintro e w' ⟨rfl, h1, h2⟩
      exact ⟨rfl, h1, h2⟩
    | bad code =>
      have HN := hide (number_c g a m c at_ L fa w (.bad code) h hs hat hmc hm hR)
      clear h hs
      rw [hLm]
      simp only
      obtain ⟨fq, hfq⟩ : ∃ fq : Int, fq = (if code = 30 then (m : Int) else (at_ : Int)) := ⟨_, rfl⟩
      rw [← hfq]
      have Hfq := hide hfq
      clear hfq
      go_enter Tryd.func64, Tryd.ntmps64
      go_wp2_with fail
      refine HN.out.mono ?_
      rintro e w1 ⟨rfl, h1, hg1⟩
      rw [← Hfq.out] at h1
      have H1 := hide h1
      have HG1 := hide hg1
      clear h1 hg1 HN Hfq
      go_wp2_with fail
      refine (next_c g a m c at_ 0 fq _ w1 H1.out (by omega) hmc hm).mono ?_
      rintro e w2 ⟨A', hA', rfl, hr2, hg2⟩
      clear hA'
      have HR2 := hide hr2
      have HG2 := hide (grown_trans HG1.out hg2)
      clear hr2 hg2
      go_wp2
      go_ret
      exact ⟨rfl, HR2.out, HG2.out⟩
  · rw [if_neg hfe, if_neg hfe]
    have hb : (fe == 0) = false := by simp [hfe]
    have HS := hide (sound_c g a m c (at_ : Int) fa fe w h)
    rw [hb] at HS
    have H := hide h
    clear h hs hb
    go_enter Tryd.func64, Tryd.ntmps64
    go_wp2_with fail
    have HNum : Hid (Calls Tryd.prog 95 #[.pointer (some ⟨g, 0, none⟩)] w fun e w' => e = .returned (.tuple #[.int .i64 0, .int .i64 0]) ∧ w = w') := by
      show Calls _ _ _ _ _
      go_enter Tryd.func95, Tryd.ntmps95
      go_wp2_with fail
      refine HS.out.mono ?_
      rintro e w1 ⟨rfl, rfl⟩
      go_wp2
      go_ret2
      exact ⟨rfl, rfl⟩
    refine HNum.out.mono ?_
    rintro e w1 ⟨rfl, rfl⟩
    clear HNum HS
    go_wp2_with fail
    refine (next_c g a m c at_ 0 fa fe w H.out (by omega) hmc hm).mono ?_
    rintro e w2 ⟨A', hA', rfl, hr2, hg2⟩
    clear hA'
    have HR2 := hide hr2
    have HG2 := hide hg2
    clear hr2 hg2
    go_wp2
    go_ret
    exact ⟨rfl, HR2.out, HG2.out⟩
/-- What went wrong, as an error in a block of its own. -/
def ErrP (w : World) (s : Rs) (e : Ending) (w' : World) : Prop := ∃ v, e = .returned v ∧ (s.fe = 0 ∧ v = .nilIface ∨ s.fe ≠ 0 ∧ v = .iface 99 (.pointer (some ⟨w.heap.size, 0, none⟩)) ∧ w'.heap[w.heap.size]? = some (.cells #[.int .i64 s.fa, .int .i64 s.fe] 30 (0, 0))) ∧ Below w.heap.size w w'
theorem err_c (g : Nat) (a : Option Addr) (m c : Nat) (s : Rs) (w : World) (h : RdS w g a m c s) :
    Calls Tryd.prog 65 #[.pointer (some ⟨g, 0, none⟩)] w (ErrP w s) := by
  obtain ⟨at_, fa, fe⟩ := s
  by_cases hfe : fe = 0
  · subst hfe
    refine (err_none g a m c _ _ w h).mono ?_
    rintro e w' ⟨rfl, rfl⟩
    exact ⟨_, rfl, .inl ⟨rfl, rfl⟩, Below.refl _ _⟩
  · have hb : (fe == 0) = false := by simp [hfe]
    have HS := hide (sound_c g a m c (at_ : Int) fa fe w h)
    rw [hb] at HS
    obtain ⟨c0, c1, c2, c3⟩ := h.cells
    clear h hb
    have Hfe := hide hfe
    clear hfe
    go_enter Tryd.func65, Tryd.ntmps65
    go_wp2_with fail
    refine HS.out.mono ?_
    rintro e w1 ⟨rfl, rfl⟩
    go_wp2
    go_ret
    exact ⟨_, rfl, .inr ⟨Hfe.out, rfl, heap_last _ _⟩, below_new _ _⟩
theorem ErrP.isErr {w w' : World} {s : Rs} {e : Ending} (h : ErrP w s e w') : ∃ v, e = .returned v ∧ IsErr w' v s.fe (if s.fe = 0 then -1 else s.fa) ∧ Below w.heap.size w w' := by
  obtain ⟨v, h1, h2, h3⟩ := h
  refine ⟨v, h1, ?_, h3⟩
  rcases h2 with ⟨h4, h5⟩ | ⟨h4, h5, h6⟩
  · rw [if_pos h4]; exact .inl ⟨h5, h4, rfl⟩
  · rw [if_neg h4]; exact .inr (.inr ⟨_, _, _, h5, h6⟩)
end Go.Proofs.YtkinpbhbgeiflaaDoor.Cv
