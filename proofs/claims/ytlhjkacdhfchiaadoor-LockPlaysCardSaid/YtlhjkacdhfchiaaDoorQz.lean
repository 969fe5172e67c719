/- Several texts, one behind the other. -/
import Derived.Test.YtlhjkacdhfchiaaDoorPy
import Derived.Test.YtlhjkacdhfchiaaDoorRw
import Derived.OwnWalk
import Derived.Test.YtlhjkacdhfchiaaDoorRk
import Derived.Test.YtlhjkacdhfchiaaDoorLg
import Derived.Test.YtlhjkacdhfchiaaDoorLi
import Derived.Test.YtlhjkacdhfchiaaDoorLj
import Derived.Laws.OwnMore
import Derived.Test.YtlhjkacdhfchiaaDoorLv
import Derived.Test.YtlhjkacdhfchiaaDoorLx
import Derived.Deep.CutBlock
import Derived.Deep.DeepCutAuto
import Derived.Test.YtlhjkacdhfchiaaDoorLo
import Derived.Test.YtlhjkacdhfchiaaDoorLt
import Derived.Test.YtlhjkacdhfchiaaDoorEu
import Derived.Test.YtlhjkacdhfchiaaDoorPx
import Derived.Test.YtlhjkacdhfchiaaDoorLz
/- Texts of the call's own, changed in place; sorting by exchange, plainly. -/
namespace Go.Proofs.YtlhjkacdhfchiaaDoor.Psw
set_option linter.unusedVariables false
set_option linter.unusedSimpArgs false
open Go.RowKit
open Go.Proofs.YtlhjkacdhfchiaaDoor.Wu Go.Proofs.YtlhjkacdhfchiaaDoor.Pd Go.Proofs.YtlhjkacdhfchiaaDoor.Ps Go.Proofs.YtlhjkacdhfchiaaDoor.Pu Go.Proofs.YtlhjkacdhfchiaaDoor.Pv Go.Proofs.YtlhjkacdhfchiaaDoor.Py
theorem own_blk {w : World} {N g n cap : Nat} {S : List Tx} (h : OwnS w N (.slice (some ⟨g, 0, none⟩) n cap) S) : ∃ cur, w.heap[g]? = some (.cells cur 9 (0, 0)) ∧ cur.toList.take S.length = S.map tv ∧ n = S.length ∧ N ≤ g ∧ S.length ≤ cur.size := by
  obtain ⟨h1, h2⟩ := h
  rcases h2 with ⟨h2, _⟩ | ⟨g', cap', cur, hv, hb, hg, hl, hm, hs, ht⟩
  · cases h2
  · injection hv with e1 e2 e3
    injection e1 with e1
    injection e1 with e1
    subst e1
    rw [Nat.mul_one] at ht hs
    exact ⟨cur, hg, ht, e2, hb, by omega⟩
theorem own_cell {w : World} {N g n cap i : Nat} {S : List Tx} {p : Tx} (h : OwnS w N (.slice (some ⟨g, 0, none⟩) n cap) S) (hi : S[i]? = some p) : w.cell? ⟨g, i, none⟩ = some (.string (bs p)) := by
  obtain ⟨cur, hg, ht, -, -, hz⟩ := own_blk h
  refine blk_cell hg ?_
  have hil := (List.getElem?_eq_some_iff.1 hi).1
  have : (cur.toList.take S.length)[i]? = some (tv p) := by rw [ht, List.getElem?_map, hi]; rfl
  rw [List.getElem?_take_of_lt hil] at this
  simpa [tv] using this
theorem own_free {w : World} {N g n cap i : Nat} {S : List Tx} (h : OwnS w N (.slice (some ⟨g, 0, none⟩) n cap) S) : w.frozen? ⟨g, i, none⟩ = false := by
  obtain ⟨cur, hg, -⟩ := own_blk h
  exact blk_free hg
theorem own_set {w : World} {N g n cap i : Nat} {S : List Tx} (p : Tx) (h : OwnS w N (.slice (some ⟨g, 0, none⟩) n cap) S) (hi : i < S.length) : OwnS (w.setCell ⟨g, i, none⟩ (.string (bs p))) N (.slice (some ⟨g, 0, none⟩) n cap) (S.set i p) := by
  obtain ⟨h1, h2⟩ := h
  refine ⟨by simp, ?_⟩
  rcases h2 with ⟨h2, _⟩ | ⟨g', cap', cur, hv, hb, hg, hl, hm, hs, ht⟩
  · cases h2
  · injection hv with e1 e2 e3
    injection e1 with e1
    injection e1 with e1
    subst e1 e2 e3
    refine .inr ⟨g, cap, cur.setIfInBounds i (.string (bs p)), by rw [List.length_set], hb, blk_set hg _, by rw [List.length_set]; exact hl, hm, by rw [Array.size_setIfInBounds]; exact hs, ?_⟩
    rw [Array.toList_setIfInBounds, List.length_set, List.take_set, ht, List.map_set]
    rfl
/-- The first i stand, and are the least. -/
def Std (out : List Tx) (i : Nat) : Prop := ∀ a b x y, a < i → a < b → out[a]? = some x → out[b]? = some y → ¬ y < x
/-- And the one at i is the least of those ahead of k. -/
def Mid (out : List Tx) (i k : Nat) : Prop := ∀ b x y, i < b → b < k → out[i]? = some x → out[b]? = some y → ¬ y < x
theorem swap_perm {out : List Tx} {i k : Nat} {x y : Tx} (hi : out[i]? = some x) (hk : out[k]? = some y) : ((out.set i y).set k x).Perm out := by
  obtain ⟨h1, e1⟩ := List.getElem?_eq_some_iff.1 hi
  obtain ⟨h2, e2⟩ := List.getElem?_eq_some_iff.1 hk
  have := (Array.swap_perm (xs := out.toArray) (i := i) (j := k) (by simpa using h1) (by simpa using h2)).toList
  rw [Array.toList_swap] at this
  simpa [e1, e2] using this
theorem at_swap {out : List Tx} {i k c : Nat} {x y : Tx} (hik : i ≠ k) (hi : out[i]? = some x) (hk : out[k]? = some y) : ((out.set i y).set k x)[c]? = if c = k then some x else if c = i then some y else out[c]? := by
  obtain ⟨h1, -⟩ := List.getElem?_eq_some_iff.1 hi
  obtain ⟨h2, -⟩ := List.getElem?_eq_some_iff.1 hk
  by_cases hck : c = k
  · subst hck
    rw [if_pos rfl, List.getElem?_set_self (by rw [List.length_set]; exact h2)]
  · rw [if_neg hck, List.getElem?_set_ne (fun e => hck e.symm)]
    by_cases hci : c = i
    · subst hci
      rw [if_pos rfl, List.getElem?_set_self h1]
    · rw [if_neg hci, List.getElem?_set_ne (fun e => hci e.symm)]
theorem std_swap {out : List Tx} {i k : Nat} {x y : Tx} (hik : i < k) (hi : out[i]? = some x) (hk : out[k]? = some y) (hs : Std out i) : Std ((out.set i y).set k x) i := by
  intro a b u v ha hab hu hv
  rw [at_swap (by omega) hi hk, if_neg (by omega), if_neg (by omega)] at hu
  rw [at_swap (by omega) hi hk] at hv
  split at hv
  · injection hv with hv
    subst hv
    exact hs a i u x ha ha hu hi
  · split at hv
    · injection hv with hv
      subst hv
      exact hs a k u y ha (by omega) hu hk
    · exact hs a b u v ha hab hu hv
theorem mid_swap {out : List Tx} {i k : Nat} {x y : Tx} (hik : i < k) (hi : out[i]? = some x) (hk : out[k]? = some y) (hlt : y < x) (hm : Mid out i k) : Mid ((out.set i y).set k x) i (k + 1) := by
  intro b u v hib hb hu hv
  rw [at_swap (by omega) hi hk, if_neg (by omega), if_pos rfl] at hu
  injection hu with hu
  subst hu
  rw [at_swap (by omega) hi hk] at hv
  split at hv
  · injection hv with hv
    subst hv
    exact List.lt_asymm hlt
  · rw [if_neg (by omega)] at hv
    intro hvy
    exact hm b x v hib (by omega) hi hv (List.lt_trans hvy hlt)
theorem mid_keep {out : List Tx} {i k : Nat} {x y : Tx} (hi : out[i]? = some x) (hk : out[k]? = some y) (hlt : ¬ y < x) (hm : Mid out i k) : Mid out i (k + 1) := by
  intro b u v hib hb hu hv
  by_cases hbk : b = k
  · subst hbk
    rw [hi] at hu
    rw [hk] at hv
    injection hu with hu
    injection hv with hv
    subst hu hv
    exact hlt
  · exact hm b u v hib (by omega) hu hv
theorem std_next {out : List Tx} {i : Nat} (hs : Std out i) (hm : Mid out i out.length) : Std out (i + 1) := by
  intro a b u v ha hab hu hv
  by_cases hai : a = i
  · subst hai
    exact hm b u v hab (List.getElem?_eq_some_iff.1 hv).1 hu hv
  · exact hs a b u v (by omega) hab hu hv
/-- What is sorted, and of the list, is the one. -/
theorem std_eq {out S : List Tx} (hs : Std out out.length) (hS : Srt S) (hp : S.Perm out) : out = S := by
  have h1 : out.Pairwise (fun a b => ¬ b < a) := by
    rw [List.pairwise_iff_getElem]
    intro a b ha hb hab
    exact hs a b out[a] out[b] ha hab (List.getElem?_eq_getElem ha) (List.getElem?_eq_getElem hb)
  have h2 : S.Pairwise (fun a b => ¬ b < a) := List.Pairwise.imp (fun h => List.lt_asymm h) hS
  exact List.Perm.eq_of_pairwise (fun a b _ _ h h' => tx_eq h' h) h1 h2 hp.symm
end Go.Proofs.YtlhjkacdhfchiaaDoor.Psw
/- Reference 09's Set. -/
namespace Go.Proofs.YtlhjkacdhfchiaaDoor.Pra
set_option linter.unusedVariables false
set_option linter.unusedSimpArgs false
set_option maxRecDepth 100000
open Go.ChangeShapes Go.WideShapes Go.ChangeAt Go.RowKit
open Go.Proofs.YtlhjkacdhfchiaaDoor.Wu Go.Proofs.YtlhjkacdhfchiaaDoor.Rk Go.Proofs.YtlhjkacdhfchiaaDoor.Pm Go.Proofs.YtlhjkacdhfchiaaDoor.Pc Go.Proofs.YtlhjkacdhfchiaaDoor.Pl Go.Proofs.YtlhjkacdhfchiaaDoor.Pd Go.Proofs.YtlhjkacdhfchiaaDoor.Pe Go.Proofs.YtlhjkacdhfchiaaDoor.Pg Go.Proofs.YtlhjkacdhfchiaaDoor.Ps Go.Proofs.YtlhjkacdhfchiaaDoor.Pt Go.Proofs.YtlhjkacdhfchiaaDoor.Pu Go.Proofs.YtlhjkacdhfchiaaDoor.Pv Go.Proofs.YtlhjkacdhfchiaaDoor.Px Go.Proofs.YtlhjkacdhfchiaaDoor.Py Go.Proofs.YtlhjkacdhfchiaaDoor.Psw Go.Proofs.YtlhjkacdhfchiaaDoor.Rw
attribute [local go_sem] kUpon_value kUpon_skip kUpon_enter
/-- What the reference's Set answers. -/
def RSet (w : World) (F : List Tx ⊕ (Nat × Int × Bool)) (e : Ending) (w' : World) : Prop := (match F with
  | .inl S => ∃ v, e = .returned (.tuple #[v, .int .i64 0, .int .i64 0]) ∧ OwnS w' w.heap.size v S
  | .inr (i, c, _) => e = .returned (.tuple #[.slice none 0 0, .int .i64 c, .int .i64 (i : Int)])) ∧ Below w.heap.size w w'
theorem scan_take {p o : Tx} {l : List Tx} {k : Nat} (h : l[k]? = some o) : scan p (l.take (k + 1)) = stp p (scan p (l.take k)) o := by
  unfold scan
  rw [List.take_add_one, h]
  simp [List.foldl_append]
theorem bad_cases (p o : Tx) : (o = p ∧ bad p o = 5) ∨ (o ≠ p ∧ (pre o p || pre p o) = true ∧ bad p o = 90) ∨ (o ≠ p ∧ (pre o p || pre p o) = false ∧ bad p o = 0) := by
  unfold bad
  by_cases h : o = p
  · exact .inl ⟨h, by rw [if_pos h]⟩
  · by_cases h2 : (pre o p || pre p o) = true
    · exact .inr (.inl ⟨h, h2, by rw [if_neg h, if_pos h2]⟩)
    · exact .inr (.inr ⟨h, by simpa using h2, by rw [if_neg h, if_neg h2]⟩)
set_option maxHeartbeats 6400000 in
theorem refset_c (a : Option Addr) (cap : Nat) (l : List Tx) (w : World) (hs : SrcS w a l) (hc : l.length ≤ cap) (hm : cap ≤ 9223372036854775807) (hbig : l.length ≤ 20) (hp : ∀ p ∈ l, p.length ≤ 200) :
    Calls Tryd.prog 42 #[.slice a l.length cap] w (RSet w (setF [] 0 l)) := by
  have HSr := hide hs
  obtain ⟨b, off, ha, hcell⟩ := hs
  obtain ⟨m, hml⟩ : ∃ m, m = l.length := ⟨_, rfl⟩
  have HML := hide hml
  rw [← hml] at ha hc hbig ⊢
  have HCell := hide (fun (i : Nat) (p : Tx) (hi : l[i]? = some p) (u : World) (hu : Below w.heap.size w u) => keepC hu (Nat.le_refl _) (hcell i p hi))
  have HP := hide hp
  have HA := hide ha
  obtain ⟨F, hF⟩ : ∃ F, F = setF [] 0 l := ⟨_, rfl⟩
  have HF : Hid (setF [] 0 (l.drop 0) = F) := hide (by rw [List.drop_zero, hF])
  have HF0 := hide hF
  rw [← hF]
  have HPost : Hid (∀ e w', RSet w F e w' → RSet w F e w') := hide (fun e w' h => h)
  generalize hRR : RSet w F = R at HPost ⊢
  have HRR := hide hRR
  clear hcell hp ha hF hml HPost hRR
  go_enter Tryd.func42, Tryd.ntmps42
  go_wp2_with fail
  go_loopw [5] (fun j wr => ∃ (i : Nat) (S : List Tx), j = .int .i64 (i : Int) ∧ i ≤ m ∧ Srt S ∧ S.Perm (l.take i) ∧ setF S i (l.drop i) = F ∧ Below w.heap.size w wr) (fun j _ => m - (intOf j).toNat)
  case atStart => exact ⟨0, [], rfl, Nat.zero_le _, List.Pairwise.nil, by rw [List.take_zero], HF.out, Below.refl _ _⟩
  case round =>
    clear HF
    obtain ⟨i, S, rfl, hi, hsrt, hperm, hF, hB⟩ := hrel
    have HO := hide (⟨hsrt, hperm⟩ : _ ∧ _)
    have HF := hide hF
    have HB := hide hB
    clear hsrt hperm hF hB
    by_cases hlt : i < m
    · obtain ⟨p, hpi⟩ : ∃ p, l[i]? = some p := ⟨l[i]'(by rw [← HML.out]; exact hlt), by rw [List.getElem?_eq_getElem]⟩
      have hcp := HCell.out i p hpi _ HB.out
      have hpl := HP.out p (List.mem_of_getElem? hpi)
      have hdr : l.drop i = p :: l.drop (i + 1) := by
        rw [List.drop_eq_getElem_cons (List.getElem?_eq_some_iff.1 hpi).1, (List.getElem?_eq_some_iff.1 hpi).2]
      have HF2 : Hid ((if check p = none then (if agn p S = 0 then setF (ins S p) (i + 1) (l.drop (i + 1)) else .inr (i, agn p S, false)) else .inr (i, 90, true)) = F) := hide (by
        have := HF.out
        rw [hdr] at this
        exact this)
      have HPi := hide hpi
      have ea := HA.out (by omega)
      subst ea
      clear hdr HF hpi
      have d1 : decide ((i : Int) < (m : Int)) = true := by simpa using hlt
      have i1 : (0 : Int) ≤ (i : Int) := by omega
      have i2 : (i : Int) < (m : Int) := by omega
      have HCk := hide (refCheck_c p wr (by omega))
      go_wp2_with fail
      refine HCk.out.mono ?_
      rintro e w1 ⟨rfl, rfl⟩
      clear HCk
      cases hck : check p with
      | some q =>
        have HF3 := hide HF2.out
        rw [if_neg (by rw [hck]; simp)] at HF3
        clear HF2 hck hcp
        unfold refV
        go_wp2
        refine ⟨rfl, _, results_tmp3 rfl _ _ _, ?_⟩
        rw [← HRR.out]
        refine ⟨?_, HB.out⟩
        rw [← HF3.out]
        rfl
      | none =>
        have HF3 := hide HF2.out
        rw [if_pos hck] at HF3
        clear HF2 hck
        unfold refV
        go_wp2_with fail
        have hfst : (⟨#[]⟩ : ByteArray) = bs [] := rfl
        rw [hfst]
        clear hfst hcp
        go_loopw [10, 9, 8] (fun j c f wr => ∃ k : Nat, j = .int .i64 (k : Int) ∧ k ≤ i ∧ c = .int .i64 (scan p (l.take k)).1 ∧ f = .string (bs (scan p (l.take k)).2) ∧ Below w.heap.size w wr) (fun j _ _ _ => i - (intOf j).toNat)
        case atStart => exact ⟨0, rfl, Nat.zero_le _, by rw [List.take_zero]; rfl, by rw [List.take_zero]; rfl, HB.out⟩
        case round =>
          clear HB
          obtain ⟨k, rfl, hki, rfl, rfl, hB⟩ := hrel
          have HB := hide hB
          clear hB
          by_cases hlk : k < i
          · obtain ⟨o, hoi⟩ : ∃ o, l[k]? = some o := ⟨l[k]'(by rw [← HML.out]; omega), by rw [List.getElem?_eq_getElem]⟩
            have hol := HP.out o (List.mem_of_getElem? hoi)
            have HOi := hide hoi
            have HSt := hide (scan_take (p := p) hoi)
            obtain ⟨s, hs⟩ : ∃ s, s = scan p (l.take k) := ⟨_, rfl⟩
            rw [← hs] at HSt ⊢
            clear hs hoi
            have d2 : decide ((k : Int) < (i : Int)) = true := by simpa using hlk
            have k1 : (0 : Int) ≤ (k : Int) := by omega
            have k2 : (k : Int) < (m : Int) := by omega
            obtain ⟨s1, s2⟩ := s
            have HClash := hide (fun u : World => refClash_c o p u (by omega) (by omega))
            have hless : Op.bytesLess (bs o).toList (bs s2).toList = decide (o < s2) := by rw [bs_toList, bs_toList]; exact less_eq o s2
            have heq := eq_texts o p
            rcases bad_cases p o with ⟨h0, hbad⟩ | ⟨h0, hcl, hbad⟩ | ⟨h0, hcl, hbad⟩
            · rw [decide_eq_true h0] at heq
              clear h0
              go_wp2_with fail
              refine wp_region_keep (fun u => Below w.heap.size w u) (by kernel_rfl) (by kernel_rfl) HB.out.drew ?_
              repeat (first
                | (refine keep_step (v := ?_) (by rfl) (fun u K hS hK => ?_) ?_
                   rotate_left
                   · have ck := HCell.out k o HOi.out u hS
                     have ci := HCell.out i p HPi.out u hS
                     (go_simp; first
                       | (go_at_call 73; (with_reducible refine Calls.mono (HClash.out u) ?_); rintro e u2 ⟨rfl, rfl⟩; exact hK _ hS)
                       | (with_reducible exact hK _ hS))
                   simp only [Act.put, List.setIfInBounds_toArray, List.set_cons_zero, List.set_cons_succ]))
              refine keep_nil (fun wA hA => ?_)
              have HBA := hide hA
              clear hA HB heq
              have ck := HCell.out k o HOi.out _ HBA.out
              by_cases hs0 : s1 = 0
              · have HS1 : Hid (scan p (l.take (k + 1)) = (5, o)) := hide (by rw [HSt.out]; unfold stp; rw [if_pos ⟨by rw [hbad]; decide, .inl hs0⟩, hbad])
                subst hs0
                clear hbad HSt hless
                go_wp2
                go_roundw
                case rel => exact ⟨k + 1, by go_num, by omega, by rw [HS1.out], by rw [HS1.out], HBA.out⟩
                case measure => simp [intOf]; omega
              · have g1 : (s1 == 0) = false := by simpa using hs0
                by_cases hl : o < s2
                · have HS1 : Hid (scan p (l.take (k + 1)) = (5, o)) := hide (by rw [HSt.out]; unfold stp; rw [if_pos ⟨by rw [hbad]; decide, .inr hl⟩, hbad])
                  rw [decide_eq_true hl] at hless
                  clear hbad HSt hs0 hl
                  go_wp2
                  go_roundw
                  case rel => exact ⟨k + 1, by go_num, by omega, by rw [HS1.out], by rw [HS1.out], HBA.out⟩
                  case measure => simp [intOf]; omega
                · have HS1 : Hid (scan p (l.take (k + 1)) = (s1, s2)) := hide (by rw [HSt.out]; unfold stp; rw [if_neg (fun h => h.2.elim hs0 hl)])
                  rw [decide_eq_false hl] at hless
                  clear hbad HSt hs0 hl
                  go_wp2
                  go_roundw
                  case rel => exact ⟨k + 1, by go_num, by omega, by rw [HS1.out], by rw [HS1.out], HBA.out⟩
                  case measure => simp [intOf]; omega
            · rw [decide_eq_false h0] at heq
              rw [hcl] at HClash
              clear h0 hcl
              go_wp2_with fail
              refine wp_region_keep (fun u => Below w.heap.size w u) (by kernel_rfl) (by kernel_rfl) HB.out.drew ?_
              repeat (first
                | (refine keep_step (v := ?_) (by rfl) (fun u K hS hK => ?_) ?_
                   rotate_left
                   · have ck := HCell.out k o HOi.out u hS
                     have ci := HCell.out i p HPi.out u hS
                     (go_simp; first
                       | (go_at_call 73; (with_reducible refine Calls.mono (HClash.out u) ?_); rintro e u2 ⟨rfl, rfl⟩; exact hK _ hS)
                       | (with_reducible exact hK _ hS))
                   simp only [Act.put, List.setIfInBounds_toArray, List.set_cons_zero, List.set_cons_succ]))
              refine keep_nil (fun wA hA => ?_)
              have HB := hide hA
              clear hA heq
              go_wp2_with fail
              refine wp_region_keep (fun u => Below w.heap.size w u) (by kernel_rfl) (by kernel_rfl) HB.out.drew ?_
              repeat (first
                | (refine keep_step (v := ?_) (by rfl) (fun u K hS hK => ?_) ?_
                   rotate_left
                   · have ck := HCell.out k o HOi.out u hS
                     have ci := HCell.out i p HPi.out u hS
                     (go_simp; first
                       | (go_at_call 73; (with_reducible refine Calls.mono (HClash.out u) ?_); rintro e u2 ⟨rfl, rfl⟩; exact hK _ hS)
                       | (with_reducible exact hK _ hS))
                   simp only [Act.put, List.setIfInBounds_toArray, List.set_cons_zero, List.set_cons_succ]))
              refine keep_nil (fun wB hA => ?_)
              have HBA := hide hA
              clear hA HB
              have ck := HCell.out k o HOi.out _ HBA.out
              by_cases hs0 : s1 = 0
              · have HS1 : Hid (scan p (l.take (k + 1)) = (90, o)) := hide (by rw [HSt.out]; unfold stp; rw [if_pos ⟨by rw [hbad]; decide, .inl hs0⟩, hbad])
                subst hs0
                clear hbad HSt hless
                go_wp2
                go_roundw
                case rel => exact ⟨k + 1, by go_num, by omega, by rw [HS1.out], by rw [HS1.out], HBA.out⟩
                case measure => simp [intOf]; omega
              · have g1 : (s1 == 0) = false := by simpa using hs0
                by_cases hl : o < s2
                · have HS1 : Hid (scan p (l.take (k + 1)) = (90, o)) := hide (by rw [HSt.out]; unfold stp; rw [if_pos ⟨by rw [hbad]; decide, .inr hl⟩, hbad])
                  rw [decide_eq_true hl] at hless
                  clear hbad HSt hs0 hl
                  go_wp2
                  go_roundw
                  case rel => exact ⟨k + 1, by go_num, by omega, by rw [HS1.out], by rw [HS1.out], HBA.out⟩
                  case measure => simp [intOf]; omega
                · have HS1 : Hid (scan p (l.take (k + 1)) = (s1, s2)) := hide (by rw [HSt.out]; unfold stp; rw [if_neg (fun h => h.2.elim hs0 hl)])
                  rw [decide_eq_false hl] at hless
                  clear hbad HSt hs0 hl
                  go_wp2
                  go_roundw
                  case rel => exact ⟨k + 1, by go_num, by omega, by rw [HS1.out], by rw [HS1.out], HBA.out⟩
                  case measure => simp [intOf]; omega
            · rw [decide_eq_false h0] at heq
              rw [hcl] at HClash
              clear h0 hcl
              go_wp2_with fail
              refine wp_region_keep (fun u => Below w.heap.size w u) (by kernel_rfl) (by kernel_rfl) HB.out.drew ?_
              repeat (first
                | (refine keep_step (v := ?_) (by rfl) (fun u K hS hK => ?_) ?_
                   rotate_left
                   · have ck := HCell.out k o HOi.out u hS
                     have ci := HCell.out i p HPi.out u hS
                     (go_simp; first
                       | (go_at_call 73; (with_reducible refine Calls.mono (HClash.out u) ?_); rintro e u2 ⟨rfl, rfl⟩; exact hK _ hS)
                       | (with_reducible exact hK _ hS))
                   simp only [Act.put, List.setIfInBounds_toArray, List.set_cons_zero, List.set_cons_succ]))
              refine keep_nil (fun wA hA => ?_)
              have HB := hide hA
              clear hA heq
              go_wp2_with fail
              refine wp_region_keep (fun u => Below w.heap.size w u) (by kernel_rfl) (by kernel_rfl) HB.out.drew ?_
              repeat (first
                | (refine keep_step (v := ?_) (by rfl) (fun u K hS hK => ?_) ?_
                   rotate_left
                   · have ck := HCell.out k o HOi.out u hS
                     have ci := HCell.out i p HPi.out u hS
                     (go_simp; first
                       | (go_at_call 73; (with_reducible refine Calls.mono (HClash.out u) ?_); rintro e u2 ⟨rfl, rfl⟩; exact hK _ hS)
                       | (with_reducible exact hK _ hS))
                   simp only [Act.put, List.setIfInBounds_toArray, List.set_cons_zero, List.set_cons_succ]))
              refine keep_nil (fun wB hA => ?_)
              have HBA := hide hA
              clear hA HB
              have ck := HCell.out k o HOi.out _ HBA.out
              have HS1 : Hid (scan p (l.take (k + 1)) = (s1, s2)) := hide (by rw [HSt.out]; unfold stp; rw [if_neg (fun h => h.1 hbad)])
              clear hbad HSt hless
              go_wp2
              go_roundw
              case rel => exact ⟨k + 1, by go_num, by omega, by rw [HS1.out], by rw [HS1.out], HBA.out⟩
              case measure => simp [intOf]; omega
          · obtain rfl : k = i := by omega
            have d2 : decide ((k : Int) < (k : Int)) = false := by simp
            have hsc := scan_agn (p := p) HO.out.1 HO.out.2
            rw [hsc]
            obtain ⟨z, hz⟩ : ∃ z, z = agn p S := ⟨_, rfl⟩
            by_cases hz0 : z = 0
            · have hne : ∀ o ∈ S, o ≠ p := fun o ho e => by
                have := agn_zero.1 (hz.symm.trans hz0) o ho
                unfold bad at this
                rw [if_pos e] at this
                cases this
              have HO2 : Hid (Srt (ins S p) ∧ (ins S p).Perm (l.take (k + 1))) := hide ⟨ins_srt HO.out.1 hne, by
                rw [List.take_add_one, HPi.out]
                exact (ins_perm HO.out.1).trans ((List.Perm.cons p HO.out.2).trans (List.perm_append_singleton p (l.take k)).symm)⟩
              rw [← hz] at HF3 ⊢
              rw [if_pos hz0] at HF3
              subst hz0
              clear hz hsc hne
              go_wp2
              go_roundw
              case rel => exact ⟨k + 1, ins S p, by go_num, by omega, HO2.out.1, HO2.out.2, HF3.out, HB.out⟩
              case measure => simp [intOf]; omega
            · rw [← hz] at HF3 ⊢
              rw [if_neg hz0] at HF3
              have d3 : (z != 0) = true := by simpa using hz0
              clear hz hsc hz0
              go_wp2
              refine ⟨rfl, _, results_tmp3 rfl _ _ _, ?_⟩
              rw [← HRR.out]
              refine ⟨?_, HB.out⟩
              rw [← HF3.out]
              rfl
    · obtain rfl : i = m := by omega
      have d1 : decide ((i : Int) < (i : Int)) = false := by simp
      have HFS : Hid (F = .inl S) := hide (by
        rw [← HF.out, List.drop_of_length_le (by rw [← HML.out]; exact Nat.le_refl _)]
        rfl)
      have HPm : Hid (Srt S ∧ S.Perm l) := hide ⟨HO.out.1, by
        have := HO.out.2
        rwa [List.take_of_length_le (by rw [← HML.out]; exact Nat.le_refl _)] at this⟩
      have hlE : l.length = i := HML.out.symm
      have HApp := hide (append_rest (wr.alloc (.cells #[] 9)) 52 (.slice (some ⟨wr.heap.size, 0, none⟩) 0 0) wr.heap.size [] l a cap ⟨by simp, .inr ⟨wr.heap.size, 0, #[], rfl, Nat.le_refl _, heap_last _ _, Nat.zero_le _, Nat.zero_le _, by simp, by simp⟩⟩ (HSr.out.below (keepB (below_new wr (.cells #[] 9)) (Nat.le_refl _) HB.out)) (by simp) (by simp; omega))
      rw [hlE, List.nil_append] at HApp
      obtain ⟨v2, w2, hrun, ho2, hb2⟩ := HApp.out
      have Hrun := hide hrun
      have HO2 : Hid (OwnS w2 w.heap.size v2 l) := hide (OwnS.less (N := wr.heap.size) ho2 HB.out.size)
      have HB2 := hide (keepB ((below_new wr (.cells #[] 9)).trans hb2) (Nat.le_refl _) HB.out)
      obtain ⟨a3, c3, rfl, hc3, hm3, hnil, hadr⟩ := HO2.out.form
      rw [hlE] at Hrun HO2 hc3
      have HAd : Hid (0 < i → ∃ g, a3 = some ⟨g, 0, none⟩ ∧ w.heap.size ≤ g) := hide (fun h0 => by
        cases a3 with
        | none =>
          have := (hnil rfl).1
          rw [this] at hlE
          simp at hlE
          omega
        | some ad =>
          obtain ⟨g, rfl, hg, -⟩ := hadr ad rfl
          exact ⟨g, rfl, hg⟩)
      have HlE := hide hlE
      unfold maxLen at hm3
      clear hrun ho2 hb2 HApp hnil hadr hlE HO HF HB hi
      go_wp2_with (refine wpList_append_at (w' := w2) (v' := .slice a3 i c3) rfl 52 (.tmp 79) (.tmp 80) rfl Hrun.out ?_)
      clear Hrun
      go_loopw [13] (fun j wq => ∃ (n : Nat) (out : List Tx), j = .int .i64 (n : Int) ∧ n ≤ i ∧ out.length = i ∧ OwnS wq w.heap.size (.slice a3 i c3) out ∧ out.Perm l ∧ Std out n ∧ Below w.heap.size w wq) (fun j _ => i - (intOf j).toNat)
      case atStart => exact ⟨0, l, rfl, Nat.zero_le _, HlE.out, HO2.out, List.Perm.refl _, (fun a b x y h => absurd h (by omega)), HB2.out⟩
      case round =>
        clear HO2 HB2
        obtain ⟨n, out, rfl, hn, hlen, hO, hperm, hstd, hB⟩ := hrel
        have HX := hide (⟨hlen, hO, hperm, hstd, hB⟩ : _ ∧ _ ∧ _ ∧ _ ∧ _)
        clear hlen hO hperm hstd hB
        by_cases hni : n < i
        · obtain ⟨g, rfl, hg⟩ := HAd.out (by omega)
          have d2 : decide ((n : Int) < (i : Int)) = true := by simpa using hni
          have n1 : (0 : Int) ≤ (n : Int) := by omega
          have n2 : (n : Int) < (i : Int) := by omega
          go_wp2_with fail
          go_loopw [14] (fun j wq => ∃ (k : Nat) (out : List Tx), j = .int .i64 (k : Int) ∧ n + 1 ≤ k ∧ k ≤ i ∧ out.length = i ∧ OwnS wq w.heap.size (.slice (some ⟨g, 0, none⟩) i c3) out ∧ out.Perm l ∧ Std out n ∧ Mid out n k ∧ Below w.heap.size w wq) (fun j _ => i - (intOf j).toNat)
          case atStart => exact ⟨n + 1, out, by go_num, Nat.le_refl _, by omega, HX.out.1, HX.out.2.1, HX.out.2.2.1, HX.out.2.2.2.1, (fun b x y h1 h2 => absurd h1 (by omega)), HX.out.2.2.2.2⟩
          case round =>
            clear HX
            obtain ⟨k, out, rfl, hnk, hki, hlen, hO, hperm, hstd, hmid, hB⟩ := hrel
            have HX := hide (⟨hlen, hO, hperm, hstd, hmid, hB⟩ : _ ∧ _ ∧ _ ∧ _ ∧ _ ∧ _)
            clear hlen hO hperm hstd hmid hB
            by_cases hk : k < i
            · have d3 : decide ((k : Int) < (i : Int)) = true := by simpa using hk
              have k1 : (0 : Int) ≤ (k : Int) := by omega
              have k2 : (k : Int) < (i : Int) := by omega
              obtain ⟨x, hx⟩ : ∃ x, out[n]? = some x := ⟨out[n]'(by rw [HX.out.1]; omega), by rw [List.getElem?_eq_getElem]⟩
              obtain ⟨y, hy⟩ : ∃ y, out[k]? = some y := ⟨out[k]'(by rw [HX.out.1]; omega), by rw [List.getElem?_eq_getElem]⟩
              have Hx := hide hx
              have Hy := hide hy
              clear hx hy
              have hless : Op.bytesLess (bs y).toList (bs x).toList = decide (y < x) := by rw [bs_toList, bs_toList]; exact less_eq y x
              go_wp2_with fail
              refine wp_region_keep (fun u => OwnS u w.heap.size (.slice (some ⟨g, 0, none⟩) i c3) out ∧ Below w.heap.size w u) (by kernel_rfl) (by kernel_rfl) ⟨HX.out.2.1.same (fun g hg => rfl), HX.out.2.2.2.2.2.drew⟩ ?_
              repeat (first
                | (refine keep_step (v := ?_) (by rfl) (fun u K hS hK => ?_) ?_
                   rotate_left
                   · have cx := own_cell hS.1 Hx.out
                     have cy := own_cell hS.1 Hy.out
                     (go_simp; with_reducible exact hK _ hS)
                   simp only [Act.put, List.setIfInBounds_toArray, List.set_cons_zero, List.set_cons_succ]))
              refine keep_nil (fun wA hA => ?_)
              have HA1 := hide hA
              clear hA
              by_cases hl : y < x
              · rw [decide_eq_true hl]
                have cx := own_cell HA1.out.1 Hx.out
                have cy := own_cell HA1.out.1 Hy.out
                have fx := own_free (i := n) HA1.out.1
                have HO1 := hide (own_set (i := n) y HA1.out.1 (by rw [HX.out.1]; omega))
                have cy2 := own_cell (i := k) (p := y) HO1.out (by rw [List.getElem?_set_ne (by omega)]; exact Hy.out)
                have fy2 := own_free (i := k) HO1.out
                have HO2 := hide (own_set (i := k) x HO1.out (by rw [List.length_set, HX.out.1]; omega))
                have HB2 := hide ((HA1.out.2.setCell (p := ⟨g, n, none⟩) (by simpa using hg) (.string (bs y))).setCell (p := ⟨g, k, none⟩) (by simpa using hg) (.string (bs x)))
                have HM2 := hide (⟨std_swap (by omega) Hx.out Hy.out HX.out.2.2.2.1, mid_swap (by omega) Hx.out Hy.out hl HX.out.2.2.2.2.1, (swap_perm Hx.out Hy.out).trans HX.out.2.2.1⟩ : _ ∧ _ ∧ _)
                have HL2 : Hid (((out.set n y).set k x).length = i) := hide (by rw [List.length_set, List.length_set]; exact HX.out.1)
                clear hless hl HX HA1 HO1 Hx Hy
                go_wp2
                go_roundw
                case rel => exact ⟨k + 1, (out.set n y).set k x, by go_num, by omega, by omega, HL2.out, HO2.out, HM2.out.2.2, HM2.out.1, HM2.out.2.1, HB2.out⟩
                case measure => simp [intOf]; omega
              · rw [decide_eq_false hl]
                have HM2 := hide (mid_keep Hx.out Hy.out hl HX.out.2.2.2.2.1)
                clear hless hl Hx Hy
                go_wp2
                go_roundw
                case rel => exact ⟨k + 1, out, by go_num, by omega, by omega, HX.out.1, HA1.out.1, HX.out.2.2.1, HX.out.2.2.2.1, HM2.out, HA1.out.2⟩
                case measure => simp [intOf]; omega
            · obtain rfl : k = i := by omega
              have d3 : decide ((k : Int) < (k : Int)) = false := by simp
              have HS2 := hide (std_next HX.out.2.2.2.1 (by rw [HX.out.1]; exact HX.out.2.2.2.2.1))
              go_wp2
              go_roundw
              case rel => exact ⟨n + 1, out, by go_num, by omega, HX.out.1, HX.out.2.1, HX.out.2.2.1, HS2.out, HX.out.2.2.2.2.2⟩
              case measure => simp [intOf]; omega
        · obtain rfl : n = i := by omega
          have d2 : decide ((n : Int) < (n : Int)) = false := by simp
          have hE : out = S := std_eq (by rw [HX.out.1]; exact HX.out.2.2.2.1) HPm.out.1 (HPm.out.2.trans HX.out.2.2.1.symm)
          have HE := hide hE
          clear hE
          go_wp2
          refine ⟨rfl, _, results_tmp3 rfl _ _ _, ?_⟩
          rw [← HRR.out]
          refine ⟨?_, HX.out.2.2.2.2⟩
          rw [HFS.out]
          exact ⟨_, rfl, by rw [← HE.out]; exact HX.out.2.1⟩
end Go.Proofs.YtlhjkacdhfchiaaDoor.Pra
/- Reference 12: Find, meet, Has. -/
namespace Go.Proofs.YtlhjkacdhfchiaaDoor.Na
set_option linter.unusedVariables false
set_option linter.unusedSimpArgs false
set_option maxRecDepth 100000
open Go.ChangeShapes Go.WideShapes Go.ChangeAt Go.RowKit
open Go.Proofs.YtlhjkacdhfchiaaDoor.Wu Go.Proofs.YtlhjkacdhfchiaaDoor.Rk Go.Proofs.YtlhjkacdhfchiaaDoor.Pm Go.Proofs.YtlhjkacdhfchiaaDoor.Pc Go.Proofs.YtlhjkacdhfchiaaDoor.Pl Go.Proofs.YtlhjkacdhfchiaaDoor.Pd Go.Proofs.YtlhjkacdhfchiaaDoor.Pe Go.Proofs.YtlhjkacdhfchiaaDoor.Pg Go.Proofs.YtlhjkacdhfchiaaDoor.Ps Go.Proofs.YtlhjkacdhfchiaaDoor.La Go.Proofs.YtlhjkacdhfchiaaDoor.Lb Go.Proofs.YtlhjkacdhfchiaaDoor.Lc Go.Proofs.YtlhjkacdhfchiaaDoor.Ld
attribute [local go_sem] kUpon_value kUpon_skip kUpon_enter
set_option maxHeartbeats 1600000 in
theorem rfind_c (a : Option Addr) (m c : Nat) (us : List La.Ask) (who : Int) (w : World) (hu : IsAs w a m c us) :
    Calls Tryd.prog 41 #[.slice a m c, .int .i64 who] w fun e w' => e = .returned (.int .i64 (place us who)) ∧ w' = w := by
  obtain ⟨hlen, hmc, hcm, g, off, ha, hcell⟩ := hu
  have HL := hide hlen
  have HC := hide hcell
  clear hcell hlen
  go_enter Tryd.func41, Tryd.ntmps41
  go_wp2_with fail
  go_loopw [5] (fun j wr => ∃ k, j = .int .i64 ((k : Nat) : Int) ∧ k ≤ m ∧ Hid (∀ x ∈ us.take k, isWho who x = false) ∧ wr = w) (fun j _ => m - (intOf j).toNat)
  case atStart => exact ⟨0, rfl, Nat.zero_le _, (show ∀ x ∈ us.take 0, _ from by simp), rfl⟩
  case round =>
    obtain ⟨k, rfl, hk, HN, rfl⟩ := hrel
    by_cases hlt : k < m
    · have hex : ∃ u, us[k]? = some u := ⟨us[k]'(by rw [HL.out]; exact hlt), by rw [List.getElem?_eq_getElem]⟩
      obtain ⟨u0, hks⟩ := hex
      obtain ⟨c0, c1⟩ := HC.out k u0 hks
      have Hk := hide hks
      obtain rfl := ha (by omega)
      clear hks ha c1
      have d1 : decide ((k : Int) < (m : Int)) = true := by simpa using hlt
      have i1 : (0 : Int) ≤ (k : Int) := by omega
      have i2 : (k : Int) < (m : Int) := by omega
      obtain ⟨n, hn⟩ : ∃ n, n = u0.1 := ⟨_, rfl⟩
      rw [← hn] at c0
      cases hq : isWho who u0 with
      | true =>
        have HP := hide (place_hit Hk.out hq HN.out)
        unfold isWho at hq
        rw [← hn] at hq
        have hq2 : decide (n = who) = true := decide_eq_true (by simpa using hq)
        clear hn
        go_wp2
        go_ret
        exact ⟨by rw [HP.out]; rfl, rfl⟩
      | false =>
        have HNx : Hid (∀ x ∈ us.take (k + 1), isWho who x = false) := hide (fun x hx => by
          rw [List.take_add_one, Hk.out] at hx
          rcases List.mem_append.1 hx with hx | hx
          · exact HN.out x hx
          · simp at hx; rw [hx]; exact hq)
        unfold isWho at hq
        rw [← hn] at hq
        have hq2 : decide (n = who) = false := decide_eq_false (by simpa using hq)
        clear hn HN
        go_wp2
        go_roundw
        case rel => exact ⟨k + 1, by go_num, by omega, HNx, trivial⟩
        case measure => simp [intOf]; omega
    · obtain rfl : k = m := by omega
      have d1 : decide ((k : Int) < (k : Int)) = false := by simp
      have HP := hide (place_miss (us := us) (who := who) (by
        have := HN.out
        rwa [List.take_of_length_le (by rw [HL.out]; exact Nat.le_refl _)] at this))
      clear hk ha HN
      go_wp2
      go_ret
      exact ⟨by rw [HP.out]; rfl, rfl⟩
set_option maxHeartbeats 3200000 in
theorem rmeet_c (n n' : Int) (a a' : Option Addr) (m c m' c' : Nat) (P Q : List (List UInt8)) (w : World) (hP : SrcS w a P) (hPl : P.length = m) (hc : m ≤ c) (hm : c ≤ 9223372036854775807) (hQ : SrcS w a' Q) (hQl : Q.length = m') (hc' : m' ≤ c') (hm' : c' ≤ 9223372036854775807) (h1 : ∀ p ∈ P, p.length ≤ 200) (h2 : ∀ q ∈ Q, q.length ≤ 200) :
    Calls Tryd.prog 46 #[.agg #[.int .i64 n, .slice a m c], .agg #[.int .i64 n', .slice a' m' c']] w fun e w' => e = .returned (.bool (way P Q)) ∧ Below w.heap.size w w' := by
  obtain ⟨b, off, ha, hcell⟩ := hP
  obtain ⟨b', off', ha', hcell'⟩ := hQ
  rw [hPl] at ha
  rw [hQl] at ha'
  have hA1 := below_new w (.cells #[.int .i64 n, .slice a m c] 58)
  have hX1 := heap_last w (.cells #[.int .i64 n, .slice a m c] 58)
  obtain ⟨wa, hwa⟩ : ∃ wa, wa = w.alloc (.cells #[.int .i64 n, .slice a m c] 58) := ⟨_, rfl⟩
  rw [← hwa] at hA1 hX1
  have hA2 := below_new wa (.cells #[.int .i64 n', .slice a' m' c'] 58)
  have hX2 := heap_last wa (.cells #[.int .i64 n', .slice a' m' c'] 58)
  have hX3 := below_blk hA2 (heap_lt hX1) hX1
  have hBB := keepB hA2 (Nat.le_refl _) hA1
  have HB := hide hBB
  have HC := hide (fun i p (hi : P[i]? = some p) => keepC hBB (Nat.le_refl _) (hcell i p hi))
  have HC' := hide (fun i p (hi : Q[i]? = some p) => keepC hBB (Nat.le_refl _) (hcell' i p hi))
  have q1 := blk_cell (i := 1) hX3 rfl
  have q2 := blk_cell (i := 1) hX2 rfl
  have esz : wa.heap.size = w.heap.size + 1 := by rw [hwa]; exact World.size_alloc _ _
  rw [esz] at q2
  rw [hwa] at q1 q2 HB HC HC'
  have HA := hide ha
  have HA' := hide ha'
  have HPl := hide hPl
  have HQl := hide hQl
  have H1 := hide h1
  have H2 := hide h2
  clear esz hcell hcell' ha ha' hPl hQl h1 h2 hA1 hX1 hA2 hX2 hX3 hBB hwa
  go_enter Tryd.func46, Tryd.ntmps46
  go_wp2_with fail
  generalize hw1 : ((w.alloc (.cells #[.int .i64 n, .slice a m c] 58)).alloc (.cells #[.int .i64 n', .slice a' m' c'] 58)) = w1 at *
  clear hw1
  go_loopw [5, 6] (fun j z wr => ∃ i : Nat, j = .int .i64 (i : Int) ∧ i ≤ m ∧ way (P.take i) Q = false ∧ Below w1.heap.size w1 wr) (fun j _ _ => m - (intOf j).toNat)
  case atStart => exact ⟨0, rfl, Nat.zero_le _, by rw [List.take_zero]; rfl, Below.refl _ _⟩
  case round =>
    obtain ⟨i, rfl, hi, hw0, hb⟩ := hrel
    have HW := hide hw0
    have HR := hide hb
    have c1 := keepC hb (Nat.le_refl _) q1
    clear hw0 hb
    by_cases hlt : i < m
    · have hex : ∃ p, P[i]? = some p := ⟨P[i]'(by rw [HPl.out]; exact hlt), List.getElem?_eq_getElem (by rw [HPl.out]; exact hlt)⟩
      obtain ⟨p, hpi⟩ := hex
      have hp2 := H1.out p (List.mem_of_getElem? hpi)
      have HPi := hide hpi
      have ea := HA.out (by omega)
      subst ea
      clear hpi
      have d1 : decide ((i : Int) < (m : Int)) = true := by simpa using hlt
      have i1 : (0 : Int) ≤ (i : Int) := by omega
      have i2 : (i : Int) < (m : Int) := by omega
      go_wp2_with fail
      clear d1 c1
      go_loopw [6] (fun j wq => ∃ x : Nat, j = .int .i64 (x : Int) ∧ x ≤ m' ∧ hit p (Q.take x) = false ∧ Below w1.heap.size w1 wq) (fun j _ => m' - (intOf j).toNat)
      case atStart => exact ⟨0, rfl, Nat.zero_le _, by rw [List.take_zero]; rfl, HR.out⟩
      case round =>
        clear HR
        obtain ⟨x, rfl, hx, hh0, hb⟩ := hrel
        have HH := hide hh0
        have HR := hide hb
        have c2 := keepC hb (Nat.le_refl _) q2
        clear hh0 hb
        by_cases hlx : x < m'
        · have hex2 : ∃ q, Q[x]? = some q := ⟨Q[x]'(by rw [HQl.out]; exact hlx), List.getElem?_eq_getElem (by rw [HQl.out]; exact hlx)⟩
          obtain ⟨q, hqi⟩ := hex2
          have hq3 := H2.out q (List.mem_of_getElem? hqi)
          have HQi := hide hqi
          have ea := HA'.out (by omega)
          subst ea
          have HF := hide (fun (u : World) (hu : Below w1.heap.size w1 u) => (⟨keepC hu (Nat.le_refl _) q1, keepC hu (Nat.le_refl _) q2, keepC hu (Nat.le_refl _) (HC.out i p HPi.out), keepC hu (Nat.le_refl _) (HC'.out x q hqi)⟩ : _ ∧ _ ∧ _ ∧ _))
          clear hqi
          have d2 : decide ((x : Int) < (m' : Int)) = true := by simpa using hlx
          have j1 : (0 : Int) ≤ (x : Int) := by omega
          have j2 : (x : Int) < (m' : Int) := by omega
          have heq := eq_texts p q
          have HCl := hide (fun u : World => refClash_c p q u (by omega) (by omega))
          have hans : way P Q = true ∧ hits p q = true ∨ hits p q = false ∧ hit p (Q.take (x + 1)) = false := by
            cases hh : hits p q with
            | true => exact .inl ⟨way_in HPi.out (hit_in HQi.out hh), rfl⟩
            | false => exact .inr ⟨rfl, by rw [hit_take HQi.out, HH.out, hh]; rfl⟩
          have HAns := hide hans
          clear hans
          obtain ⟨z, hz⟩ : ∃ z, z = hits p q := ⟨_, rfl⟩
          rw [← hz] at HAns
          obtain ⟨e0, he0⟩ : ∃ e0, e0 = decide (p = q) := ⟨_, rfl⟩
          obtain ⟨k0, hk0⟩ : ∃ k0, k0 = (pre p q || pre q p) := ⟨_, rfl⟩
          rw [← hk0] at HCl
          rw [← he0] at heq
          have hzz : z = (e0 || k0) := by rw [hz, he0, hk0]; rfl
          clear hz he0 hk0
          cases e0 with
          | true =>
            obtain rfl : z = true := by rw [hzz]; rfl
            clear hzz
            go_wp2_with fail
            refine wp_region_keep (fun u => Below w1.heap.size w1 u) (by kernel_rfl) (by kernel_rfl) HR.out.drew ?_
            repeat (first
              | (refine keep_step (v := ?_) (by rfl) (fun u K hS hK => ?_) ?_
                 rotate_left
                 · obtain ⟨f1, f2, f3, f4⟩ := HF.out u hS
                   (go_simp; first
                     | (go_at_call 73; (with_reducible refine Calls.mono (HCl.out u) ?_); rintro e u2 ⟨rfl, rfl⟩; exact hK _ hS)
                     | (with_reducible exact hK _ hS))
                 simp only [Act.put, List.setIfInBounds_toArray, List.set_cons_zero, List.set_cons_succ])
              | (refine keep_not (by rfl) ?_
                 simp only [Act.put, List.setIfInBounds_toArray, List.set_cons_zero, List.set_cons_succ]))
            refine keep_nil (fun wA hA => ?_)
            have HBA := hide hA
            clear hA HR heq
            have HT : Hid (way P Q = true) := hide (by rcases HAns.out with h | h; exact h.1; cases h.1)
            go_wp2
            go_ret
            exact ⟨by rw [HT.out]; rfl, keepB HBA.out (Nat.le_refl _) HB.out⟩
          | false =>
            obtain rfl : z = k0 := by rw [hzz]; rfl
            clear hzz
            go_wp2_with fail
            refine wp_region_keep (fun u => Below w1.heap.size w1 u) (by kernel_rfl) (by kernel_rfl) HR.out.drew ?_
            repeat (first
              | (refine keep_step (v := ?_) (by rfl) (fun u K hS hK => ?_) ?_
                 rotate_left
                 · obtain ⟨f1, f2, f3, f4⟩ := HF.out u hS
                   (go_simp; first
                     | (go_at_call 73; (with_reducible refine Calls.mono (HCl.out u) ?_); rintro e u2 ⟨rfl, rfl⟩; exact hK _ hS)
                     | (with_reducible exact hK _ hS))
                 simp only [Act.put, List.setIfInBounds_toArray, List.set_cons_zero, List.set_cons_succ])
              | (refine keep_not (by rfl) ?_
                 simp only [Act.put, List.setIfInBounds_toArray, List.set_cons_zero, List.set_cons_succ]))
            refine keep_nil (fun wA hA => ?_)
            have HBA := hide hA
            clear hA HR heq
            cases z with
            | true =>
              have HT : Hid (way P Q = true) := hide (by rcases HAns.out with h | h; exact h.1; cases h.1)
              go_wp2
              go_ret
              exact ⟨by rw [HT.out]; rfl, keepB HBA.out (Nat.le_refl _) HB.out⟩
            | false =>
              have HT : Hid (hit p (Q.take (x + 1)) = false) := hide (by rcases HAns.out with h | h; cases h.2; exact h.2)
              go_wp2
              go_roundw
              case rel => exact ⟨x + 1, by go_num, by omega, HT.out, HBA.out⟩
              case measure => simp [intOf]; omega
        · obtain rfl : x = m' := by omega
          have d2 : decide ((x : Int) < (x : Int)) = false := by simp
          have HW2 : Hid (way (P.take (i + 1)) Q = false) := hide (by
            rw [way_take HPi.out, HW.out]
            have := HH.out
            rw [List.take_of_length_le (by rw [HQl.out]; exact Nat.le_refl _)] at this
            rw [this]
            rfl)
          clear HW HH
          go_wp2
          go_roundw
          case rel => exact ⟨i + 1, by go_num, by omega, HW2.out, HR.out⟩
          case measure => simp [intOf]; omega
    · obtain rfl : i = m := by omega
      have d1 : decide ((i : Int) < (i : Int)) = false := by simp
      have HT : Hid (way P Q = false) := hide (by
        have := HW.out
        rwa [List.take_of_length_le (by rw [HPl.out]; exact Nat.le_refl _)] at this)
      go_wp2
      go_ret
      exact ⟨by rw [HT.out]; rfl, keepB HR.out (Nat.le_refl _) HB.out⟩
theorem hits_comm (p q : List UInt8) : hits p q = hits q p := by
  unfold hits
  rw [Bool.or_comm (pre p q)]
  by_cases h : p = q
  · subst h; rfl
  · rw [decide_eq_false h, decide_eq_false (fun e => h e.symm)]
theorem way_comm (P Q : List (List UInt8)) : way P Q = way Q P := by
  unfold way hit
  rw [Bool.eq_iff_iff, List.any_eq_true, List.any_eq_true]
  constructor
  · rintro ⟨p, hp, h⟩
    obtain ⟨q, hq, h⟩ := List.any_eq_true.1 h
    exact ⟨q, hq, List.any_eq_true.2 ⟨p, hp, by rw [hits_comm]; exact h⟩⟩
  · rintro ⟨q, hq, h⟩
    obtain ⟨p, hp, h⟩ := List.any_eq_true.1 h
    exact ⟨p, hp, List.any_eq_true.2 ⟨q, hq, by rw [hits_comm]; exact h⟩⟩
/-- Texts that are no longer than the law lets them be. -/
def Few (Ts : List (List (List UInt8))) : Prop := ∀ t ∈ Ts, ∀ p ∈ t, p.length ≤ 200
set_option maxHeartbeats 3200000 in
theorem rhas_c (a : Option Addr) (m c i : Nat) (us : List La.Ask) (Ts : List (List (List UInt8))) (t : List (List UInt8)) (w : World) (hu : IsAs w a m c us) (ht : Txs w us Ts) (hi : Ts[i]? = some t) (hf : Few Ts) :
    Calls Tryd.prog 23 #[.slice a m c, .int .i64 (i : Int)] w fun e w' => e = .returned (.bool (!((Ts.take i).any (way t)))) ∧ Below w.heap.size w w' := by
  have hlen := hu.1
  have him : i < m := by
    have := (List.getElem?_eq_some_iff.1 hi).1
    rw [ht.1, hlen] at this
    exact this
  have hex : ∃ u, us[i]? = some u := ⟨us[i]'(by rw [hlen]; exact him), by rw [List.getElem?_eq_getElem]⟩
  obtain ⟨u0, hui⟩ := hex
  have HT := hide (ht.2 i u0 t hui hi)
  have HTx := hide ht
  have HTi := hide hi
  have HFw := hide hf
  have HL := hide hlen
  obtain ⟨-, hmc, hcm, g, off, ha, hcell⟩ := hu
  obtain rfl := ha (by omega)
  have HC := hide (fun (k : Nat) (u1 : La.Ask) (hk : us[k]? = some u1) (u : World) (hb : Below w.heap.size w u) => (⟨keepC hb (Nat.le_refl _) (hcell k u1 hk).1, keepC hb (Nat.le_refl _) (hcell k u1 hk).2⟩ : _ ∧ _))
  have HI := hide (fun (u : World) (hb : Below w.heap.size w u) => HC.out i u0 hui u hb)
  obtain ⟨nn, aa, mm, cc⟩ := u0
  unfold pv at HI
  have i1 : (0 : Int) ≤ (i : Int) := by omega
  have i2 : (i : Int) < (m : Int) := by omega
  clear hcell hui hi ht hf ha hlen
  go_enter Tryd.func23, Tryd.ntmps23
  go_wp2_with fail
  go_loopw [5] (fun j wr => ∃ k : Nat, j = .int .i64 (k : Int) ∧ k ≤ i ∧ Hid ((Ts.take k).any (way t) = false) ∧ Below w.heap.size w wr) (fun j _ => i - (intOf j).toNat)
  case atStart => exact ⟨0, rfl, Nat.zero_le _, (show (Ts.take 0).any (way t) = false from rfl), Below.refl _ _⟩
  case round =>
    obtain ⟨k, rfl, hk, HN, hb⟩ := hrel
    have HB := hide hb
    clear hb
    by_cases hlt : k < i
    · have hex : ∃ u, us[k]? = some u := ⟨us[k]'(by rw [HL.out]; omega), by rw [List.getElem?_eq_getElem]⟩
      obtain ⟨u1, huk⟩ := hex
      have hex : ∃ t1, Ts[k]? = some t1 := ⟨Ts[k]'(by rw [HTx.out.1, HL.out]; omega), by rw [List.getElem?_eq_getElem]⟩
      obtain ⟨t1, htk⟩ := hex
      have HK := hide (fun (u : World) (hb : Below w.heap.size w u) => HC.out k u1 huk u hb)
      have HT1 := hide (HTx.out.2 k u1 t1 huk htk)
      have HTk := hide htk
      obtain ⟨n1, a1, m1, c1⟩ := u1
      unfold pv at HK
      clear huk htk
      obtain ⟨z, hz⟩ : ∃ z, z = way t1 t := ⟨_, rfl⟩
      have HM := hide (fun (u : World) (hb : Below w.heap.size w u) => rmeet_c n1 nn a1 aa m1 c1 mm cc t1 t u (HT1.out.1.below hb) HT1.out.2.1 HT1.out.2.2.1 HT1.out.2.2.2 (HT.out.1.below hb) HT.out.2.1 HT.out.2.2.1 HT.out.2.2.2 (HFw.out t1 (List.mem_of_getElem? HTk.out)) (HFw.out t (List.mem_of_getElem? HTi.out)))
      rw [← hz] at HM
      have HZ := hide hz
      clear hz
      have d1 : decide ((k : Int) < (i : Int)) = true := by simpa using hlt
      have k1 : (0 : Int) ≤ (k : Int) := by omega
      have k2 : (k : Int) < (m : Int) := by omega
      go_wp2_with fail
      refine wp_region_keep (fun u => Below w.heap.size w u) (by kernel_rfl) (by kernel_rfl) HB.out.drew ?_
      repeat (first
        | (refine keep_step (v := ?_) (by rfl) (fun u K hS hK => ?_) ?_
           rotate_left
           · obtain ⟨f1, f2⟩ := HI.out u hS
             obtain ⟨f3, f4⟩ := HK.out u hS
             (go_simp; first
               | (go_at_call 46; (with_reducible refine Calls.mono (HM.out u hS) ?_); rintro e u2 ⟨rfl, hb2⟩; exact hK _ (keepB hb2 (Nat.le_refl _) hS))
               | (with_reducible exact hK _ hS))
           simp only [Act.put, List.setIfInBounds_toArray, List.set_cons_zero, List.set_cons_succ])
        | (refine keep_not (by rfl) ?_
           simp only [Act.put, List.setIfInBounds_toArray, List.set_cons_zero, List.set_cons_succ]))
      refine keep_nil (fun wA hA => ?_)
      have HBA := hide hA
      clear hA HB
      cases z with
      | true =>
        have HTr : Hid ((Ts.take i).any (way t) = true) := hide (List.any_eq_true.2 ⟨t1, by
          rw [List.mem_take_iff_getElem]
          obtain ⟨hkl, he⟩ := List.getElem?_eq_some_iff.1 HTk.out
          exact ⟨k, by omega, he⟩, by rw [way_comm]; exact HZ.out.symm⟩)
        go_wp2
        go_ret
        exact ⟨by rw [HTr.out]; rfl, HBA.out⟩
      | false =>
        have HNx : Hid ((Ts.take (k + 1)).any (way t) = false) := hide (by
          rw [List.take_add_one, HTk.out, List.any_append, HN.out]
          show (false || (way t t1 || false)) = false
          rw [way_comm, ← HZ.out]; rfl)
        clear HN
        go_wp2
        go_roundw
        case rel => exact ⟨k + 1, by go_num, by omega, HNx, HBA.out⟩
        case measure => simp [intOf]; omega
    · obtain rfl : k = i := by omega
      have d1 : decide ((k : Int) < (k : Int)) = false := by simp
      go_wp2
      go_ret
      exact ⟨by rw [HN.out]; rfl, HB.out⟩
end Go.Proofs.YtlhjkacdhfchiaaDoor.Na
/- Reference 12: its asks in rows; appends. -/
namespace Go.Proofs.YtlhjkacdhfchiaaDoor.Nb
set_option linter.unusedVariables false
set_option linter.unusedSimpArgs false
set_option maxRecDepth 100000
open Go.ChangeShapes Go.WideShapes Go.ChangeAt Go.RowKit
open Go.Proofs.YtlhjkacdhfchiaaDoor.Wu Go.Proofs.YtlhjkacdhfchiaaDoor.Rk Go.Proofs.YtlhjkacdhfchiaaDoor.Pm Go.Proofs.YtlhjkacdhfchiaaDoor.Ps Go.Proofs.YtlhjkacdhfchiaaDoor.Pu Go.Proofs.YtlhjkacdhfchiaaDoor.Pv Go.Proofs.YtlhjkacdhfchiaaDoor.Px Go.Proofs.YtlhjkacdhfchiaaDoor.La Go.Proofs.YtlhjkacdhfchiaaDoor.Lb Go.Proofs.YtlhjkacdhfchiaaDoor.Lc Go.Proofs.YtlhjkacdhfchiaaDoor.Ld Go.Proofs.YtlhjkacdhfchiaaDoor.Le Go.Proofs.YtlhjkacdhfchiaaDoor.Lf Go.Proofs.YtlhjkacdhfchiaaDoor.Lg Go.Proofs.YtlhjkacdhfchiaaDoor.Li Go.Proofs.YtlhjkacdhfchiaaDoor.Lj Go.Proofs.YtlhjkacdhfchiaaDoor.Na
theorem info_ra : (Tryd.prog.info? 58).map (fun i => (i.zero, i.size, i.bytes)) = some (some (.agg #[.int .i64 0, .slice none 0 0]), 2, 32) := by kernel_rfl
/-- A slice of the reference's asks, of one's own. -/
def OwnR (w : World) (N : Nat) (v : Value) (us : List La.Ask) : Prop := w.ownsRow N 58 2 v us.length (rowA us)
theorem OwnR.nil (w : World) (N : Nat) : OwnR w N (.slice none 0 0) [] := World.ownsRow_nil _ _ _ _
theorem OwnR.is {w : World} {N : Nat} {v : Value} {us : List La.Ask} (h : OwnR w N v us) : ∃ a c, v = .slice a us.length c ∧ IsAs w a us.length c us ∧ (a = none → us = [] ∧ c = 0) ∧ ∀ ad, a = some ad → ∃ g, ad = ⟨g, 0, none⟩ := by
  obtain ⟨h1, h2⟩ := h
  rcases h2 with ⟨rfl, hn⟩ | ⟨g, cap, cur, rfl, hb, hg, hl, hm, hs, ht⟩
  · obtain rfl : us = [] := List.length_eq_zero_iff.1 hn
    exact ⟨none, 0, rfl, IsAs.nil w none 0 (by omega), fun _ => ⟨rfl, rfl⟩, (fun ad e => by cases e)⟩
  · unfold maxLen at hm
    have hat : ∀ k v, (rowA us)[k]? = some v → w.cell? ⟨g, 0 + k, none⟩ = some v := fun k v hv => by
      rw [Nat.zero_add]
      refine blk_cell hg ?_
      rw [← ht] at hv
      rw [List.getElem?_take] at hv
      split at hv
      · simpa using hv
      · cases hv
    exact ⟨some ⟨g, 0, none⟩, cap, rfl, ⟨rfl, hl, by omega, g, 0, fun _ => rfl, fun i u hi => ⟨hat _ _ (rowA_at hi).1, by rw [Nat.add_assoc]; exact hat _ _ (rowA_at hi).2⟩⟩, (fun e => by cases e), fun ad e => by injection e with e; exact ⟨g, e.symm⟩⟩
theorem OwnR.same {w w' : World} {N : Nat} {v : Value} {us : List La.Ask} (h : OwnR w N v us) (hk : ∀ g, v.ownBlock = some g → w'.heap[g]? = w.heap[g]?) : OwnR w' N v us := by
  obtain ⟨h1, h2⟩ := h
  refine ⟨h1, ?_⟩
  rcases h2 with h | ⟨g, cap, cur, rfl, hb, hg, r⟩
  · exact .inl h
  · exact .inr ⟨g, cap, cur, rfl, hb, (hk g rfl).trans hg, r⟩
theorem OwnR.below {w w' : World} {N : Nat} {v : Value} {us : List La.Ask} (h : OwnR w N v us) (hb : Below w.heap.size w w') : OwnR w' N v us := h.same fun g hg => hb.block g (World.ownsRow.lt h g hg).2
theorem OwnR.blk {w : World} {N g : Nat} {v : Value} {us : List La.Ask} (h : OwnR w N v us) (hg : v.ownBlock = some g) : N ≤ g ∧ ∃ c f, w.heap[g]? = some (.cells c 58 f) := by
  obtain ⟨h1, h2⟩ := h
  rcases h2 with ⟨rfl, _⟩ | ⟨g', cap, cur, rfl, hb, hh, r⟩
  · cases hg
  · have e : some g' = some g := hg
    injection e with e
    subst e
    exact ⟨hb, _, _, hh⟩
theorem OwnR.kp {w w' : World} {N : Nat} {v : Value} {us : List La.Ask} (h : OwnR w N v us) (hk : Kp w w') : OwnR w' N v us := h.same fun g hg => by
  obtain ⟨_, c, f, hc⟩ := h.blk hg
  rw [hk g _ hc (fun c f e => by injection e with _ e _; exact absurd e (by decide)) (fun c f e => by injection e with _ e _; exact absurd e (by decide)), hc]
theorem OwnR.fresh (w : World) : OwnR (w.alloc (.cells #[] 58)) w.heap.size (.slice (some ⟨w.heap.size, 0, none⟩) 0 0) [] := by
  have h := World.ownsRow_lit (e := 58) (size := 2) w #[] 0 (Nat.le_refl w.heap.size) (by simp [maxLen]) rfl
  exact h
/-- append(asks, others...) -/
theorem append_asks (w : World) (ty : TypeId) (v : Value) (N : Nat) (us vs : List La.Ask) (a : Option Addr) (c : Nat) (h : OwnR w N v us) (hN : N ≤ w.heap.size) (hs : IsAs w a vs.length c vs) (hn : a = none → vs = [] ∧ c = 0) (hbig : us.length + vs.length ≤ 1000000) :
    ∃ v' w', (Builtin.append_ #[51, 51] ty #[v, .slice a vs.length c]).run Tryd.prog w = .ok v' w' ∧ OwnR w' N v' (us ++ vs) ∧ w.grownBy w' v.ownBlock := by
  obtain ⟨i0, hi0, hz0, hz1, hz2⟩ := info_parts info_ra
  obtain ⟨-, hmc, hcm, g, off, ha, hcell⟩ := hs
  cases a with
  | none =>
    obtain ⟨rfl, rfl⟩ := hn rfl
    refine ⟨v, w, run_append_owned_none (P := Tryd.prog) (w := w) N 51 ty 58 i0 2 Tryd.underlying51 hi0 v us.length (rowA us) h, by rw [List.append_nil]; exact h, ⟨rfl, rfl, rfl, Nat.le_refl _, fun _ _ _ => rfl⟩⟩
  | some ad =>
    obtain ⟨v', w', hr, h1, h2, h3, h4⟩ := run_append_own_at (P := Tryd.prog) w N 51 ty 58 i0 _ 2 32 Tryd.underlying51 hi0 hz0 hz1 hz2 rfl (by omega) v us.length (rowA us) h ad vs.length c (rowA vs) (rowA_length vs) (fun j u hu => by
        have hjl := (List.getElem?_eq_some_iff.1 hu).1
        rw [rowA_length] at hjl
        have e := ha (by omega)
        injection e with e
        subst e
        rw [Addr.add_mid]
        have hk : j / 2 < vs.length := by omega
        have hv := List.getElem?_eq_getElem hk
        obtain ⟨c0, c1⟩ := hcell (j / 2) _ hv
        obtain ⟨r0, r1⟩ := rowA_at hv
        rcases Nat.mod_two_eq_zero_or_one j with hj | hj
        · have e1 : j = j / 2 * 2 := by omega
          rw [e1] at hu
          rw [r0] at hu
          rw [show off + j = off + j / 2 * 2 by omega, c0]
          exact hu
        · have e1 : j = j / 2 * 2 + 1 := by omega
          rw [e1] at hu
          rw [r1] at hu
          rw [show off + j = off + j / 2 * 2 + 1 by omega, c1]
          exact hu) (fun u hu => by
        have := rowA_one vs u hu
        simpa [Value.oneCell'] using this) (by unfold maxLen; omega) (by omega) hN
    refine ⟨v', w', hr, ?_, h2⟩
    unfold OwnR
    rw [rowA_append, List.length_append]
    exact h1
/-- append(asks, one) -/
theorem append_one (w : World) (ty : TypeId) (v : Value) (N : Nat) (us : List La.Ask) (b : Nat) (x : La.Ask) (T : TypeId) (f : Nat × Nat) (c : Nat) (h : OwnR w N v us) (hN : N ≤ w.heap.size) (hb : w.heap[b]? = some (.cells #[.int .i64 x.1, pv x] T f)) (hc1 : 1 ≤ c) (hc2 : c ≤ 9223372036854775807) (hbig : us.length ≤ 999999) :
    ∃ v' w', (Builtin.append_ #[51, 51] ty #[v, .slice (some ⟨b, 0, none⟩) 1 c]).run Tryd.prog w = .ok v' w' ∧ OwnR w' N v' (us ++ [x]) ∧ w.grownBy w' v.ownBlock := by
  refine append_asks w ty v N us [x] _ c h hN ⟨rfl, hc1, hc2, b, 0, fun _ => rfl, fun i u hi => ?_⟩ (fun e => by cases e) (by show us.length + 1 ≤ 1000000; omega)
  have hi0 : i = 0 := by
    have := (List.getElem?_eq_some_iff.1 hi).1
    simp at this
    exact this
  subst hi0
  simp at hi
  subst hi
  exact ⟨blk_cell (i := 0) hb rfl, blk_cell (i := 1) hb rfl⟩
/-- The reference's asks. -/
structure RkA (w : World) (N : Nat) (v : Value) (us : List La.Ask) (L : List Wh) : Prop where
  own : OwnR w N v us
  len : us.length = L.length
  each : ∀ (i : Nat) (u : La.Ask) (x : Wh), us[i]? = some u → L[i]? = some x → u.1 = x.1 ∧ OwnS w N (pv u) x.2
  few : L.length ≤ 64
  short : ∀ x ∈ L, ∀ p ∈ x.2, p.length ≤ 200
def RkW (w : World) (N : Nat) (v : Value) (L : List Wh) : Prop := ∃ us, RkA w N v us L
theorem RkW.nil (w : World) (N : Nat) : RkW w N (.slice none 0 0) [] := ⟨[], OwnR.nil w N, rfl, fun i u x h => by simp at h, by simp, fun x h => by cases h⟩
theorem RkA.below {w w' : World} {N : Nat} {v : Value} {us : List La.Ask} {L : List Wh} (h : RkA w N v us L) (hb : Below w.heap.size w w') : RkA w' N v us L :=
  ⟨h.own.below hb, h.len, fun i u x h1 h2 => ⟨(h.each i u x h1 h2).1, own_up (h.each i u x h1 h2).2 hb⟩, h.few, h.short⟩
theorem RkA.kp {w w' : World} {N : Nat} {v : Value} {us : List La.Ask} {L : List Wh} (h : RkA w N v us L) (hk : Kp w w') : RkA w' N v us L :=
  ⟨h.own.kp hk, h.len, fun i u x h1 h2 => ⟨(h.each i u x h1 h2).1, (h.each i u x h1 h2).2.same fun g hg => by
    obtain ⟨_, q⟩ := (h.each i u x h1 h2).2
    rcases q with ⟨e, _⟩ | ⟨g', cap, cur, e, hb, hh, r⟩
    · rw [e] at hg; cases hg
    · rw [e] at hg
      have e2 : some g' = some g := hg
      injection e2 with e2
      subst e2
      rw [hk g' _ hh (fun c f e => by injection e with _ e _; exact absurd e (by decide)) (fun c f e => by injection e with _ e _; exact absurd e (by decide)), hh]⟩, h.few, h.short⟩
theorem RkA.place {w : World} {N : Nat} {v : Value} {us : List La.Ask} {L : List Wh} (h : RkA w N v us L) (who : Int) : La.place us who = placeL L who := by
  have e : us.map (·.1) = L.map (·.1) := by
    apply List.ext_getElem (by simp [h.len])
    intro i h1 h2
    simp only [List.length_map] at h1 h2
    simp only [List.getElem_map]
    exact (h.each i us[i] L[i] (List.getElem?_eq_getElem h1) (List.getElem?_eq_getElem h2)).1
  have e2 : us.findIdx? (isWho who) = L.findIdx? (whoIs who) := by
    have h1 : (us.map (·.1)).findIdx? (fun n => n == who) = us.findIdx? (isWho who) := by rw [List.findIdx?_map]; rfl
    have h2 : (L.map (·.1)).findIdx? (fun n => n == who) = L.findIdx? (whoIs who) := by rw [List.findIdx?_map]; rfl
    rw [← h1, ← h2, e]
  unfold La.place placeL
  rw [e2]
  cases L.findIdx? (whoIs who) <;> rfl
theorem RkA.txs {w : World} {N : Nat} {v : Value} {us : List La.Ask} {L : List Wh} (h : RkA w N v us L) : Txs w us (L.map (·.2)) := by
  refine ⟨by rw [List.length_map, h.len], fun i u t h1 h2 => ?_⟩
  obtain ⟨x, hx, rfl⟩ : ∃ x, L[i]? = some x ∧ x.2 = t := by simpa using h2
  obtain ⟨-, hO⟩ := h.each i u x h1 hx
  obtain ⟨a, cap, e, hl, hm, -, -⟩ := hO.form
  unfold pv at hO e
  injection e with e1 e2 e3
  unfold maxLen at hm
  refine ⟨hO.src, by omega, by omega, by omega⟩
theorem RkA.fw {w : World} {N : Nat} {v : Value} {us : List La.Ask} {L : List Wh} (h : RkA w N v us L) : Few (L.map (·.2)) := fun t ht p hp => by
  obtain ⟨x, hx, rfl⟩ := List.mem_map.1 ht
  exact h.short x hx p hp
/-- Find. -/
theorem rfind_l {w : World} {N : Nat} {v : Value} {L : List Wh} (h : RkW w N v L) (who : Int) : Calls Tryd.prog 41 #[v, .int .i64 who] w fun e w' => e = .returned (.int .i64 (placeL L who)) ∧ w' = w := by
  obtain ⟨us, h⟩ := h
  obtain ⟨a, c, rfl, hI, -⟩ := h.own.is
  have := rfind_c a us.length c us who w hI
  rw [h.place] at this
  exact this
/-- Has. -/
theorem rhas_l {w : World} {N : Nat} {v : Value} {L : List Wh} (h : RkW w N v L) {i : Nat} (hi : i < L.length) : Calls Tryd.prog 23 #[v, .int .i64 (i : Int)] w fun e w' => e = .returned (.bool (freeL L i)) ∧ Below w.heap.size w w' := by
  obtain ⟨us, h⟩ := h
  obtain ⟨a, c, rfl, hI, -⟩ := h.own.is
  have hx := List.getElem?_eq_getElem hi
  have := rhas_c a us.length c i us (L.map (·.2)) L[i].2 w hI h.txs (by rw [List.getElem?_map, hx]; rfl) h.fw
  rw [← freeL_at hx] at this
  exact this
end Go.Proofs.YtlhjkacdhfchiaaDoor.Nb
/- Reference 12: Put. -/
namespace Go.Proofs.YtlhjkacdhfchiaaDoor.Nc
set_option linter.unusedVariables false
set_option linter.unusedSimpArgs false
set_option maxRecDepth 100000
open Go.ChangeShapes Go.WideShapes Go.ChangeAt Go.RowKit
open Go.Proofs.YtlhjkacdhfchiaaDoor.Wu Go.Proofs.YtlhjkacdhfchiaaDoor.Rk Go.Proofs.YtlhjkacdhfchiaaDoor.Pm Go.Proofs.YtlhjkacdhfchiaaDoor.Ps Go.Proofs.YtlhjkacdhfchiaaDoor.Pu Go.Proofs.YtlhjkacdhfchiaaDoor.Pv Go.Proofs.YtlhjkacdhfchiaaDoor.Px Go.Proofs.YtlhjkacdhfchiaaDoor.Pra Go.Proofs.YtlhjkacdhfchiaaDoor.La Go.Proofs.YtlhjkacdhfchiaaDoor.Lb Go.Proofs.YtlhjkacdhfchiaaDoor.Lc Go.Proofs.YtlhjkacdhfchiaaDoor.Ld Go.Proofs.YtlhjkacdhfchiaaDoor.Le Go.Proofs.YtlhjkacdhfchiaaDoor.Lf Go.Proofs.YtlhjkacdhfchiaaDoor.Lg Go.Proofs.YtlhjkacdhfchiaaDoor.Li Go.Proofs.YtlhjkacdhfchiaaDoor.Lu Go.Proofs.YtlhjkacdhfchiaaDoor.Lv Go.Proofs.YtlhjkacdhfchiaaDoor.Na Go.Proofs.YtlhjkacdhfchiaaDoor.Nb
open Go.Proofs.YtlhjkacdhfchiaaDoor.Ba (of_hid)
attribute [local go_sem] kUpon_value kUpon_skip kUpon_enter
theorem setF_flag : ∀ {R S : List (List UInt8)} {i k : Nat} {c : Int}, setF S i R = .inr (k, c, true) → c = 90
  | [], S, i, k, c, h => by simp [setF] at h
  | p :: R, S, i, k, c, h => by
    rw [setF] at h
    split at h
    · split at h
      · exact setF_flag h
      · simp at h
    · simp at h; exact h.2.symm
theorem setF_code : ∀ {R S : List (List UInt8)} {i k : Nat} {c : Int}, setF S i R = .inr (k, c, false) → c ≠ 0
  | [], S, i, k, c, h => by simp [setF] at h
  | p :: R, S, i, k, c, h => by
    rw [setF] at h
    split at h
    · split at h
      · exact setF_code h
      · rename_i hz
        simp at h
        rw [← h.2]
        exact hz
    · simp at h
/-- What Put answers. -/
def RPutR (w : World) (N : Nat) (v : Value) (r : (List Wh × Bool) ⊕ Int) (e : Ending) (w' : World) : Prop := (match r with
  | .inl (L', _) => ∃ v', e = .returned (.tuple #[v', .int .i64 0]) ∧ RkW w' N v' L'
  | .inr c => e = .returned (.tuple #[v, .int .i64 c]) ∧ c ≠ 0) ∧ Below w.heap.size w w'
theorem wpList_appR {w : World} {ops : Array Oper} {rest : List Oper} {o : Oper} {a : Act} {Q : Exit → Act → World → Prop} (hgd : o.guard = none) (s x : Operand)
    (ho : o.op = .call { callee := .builtin .append, args := #[s, x], argTypes := #[51, 51] }) (v xv : Value) (N : Nat) (zs : List La.Ask)
    (hs : a.eval s = v) (hx : a.eval x = xv) (h : ∃ v' w', (Builtin.append_ #[51, 51] o.type #[v, xv]).run Tryd.prog w = .ok v' w' ∧ OwnR w' N v' zs ∧ w.grownBy w' v.ownBlock)
    (hK : ∀ v' w', Hid (OwnR w' N v' zs) → Hid (w.grownBy w' v.ownBlock) → Hid (wpList Tryd.prog ops Q rest (a.put o.dst v') w')) : wpList Tryd.prog ops Q (o :: rest) a w := by
  obtain ⟨v', w', hr, h1, h2⟩ := h
  refine wpList_plain hgd fun K hK' => ?_
  unfold Oper.wp
  rw [← hs, ← hx] at hr
  simp [execOp, ho, resolve, invoke, builtin, hr, Result.andThen]
  exact hK' _ _ (hK v' w' h1 h2)
/-- What is grown lies above. -/
theorem grown_below {w w' : World} {B : Nat} {r : Option Nat} (hg : w.grownBy w' r) (hB : B ≤ w.heap.size) (hr : ∀ g, r = some g → B ≤ g) : Below B w w' :=
  ⟨hg.os, hg.tape, hg.output, hg.size, fun k hk => hg.block k (by omega) (fun e => absurd (hr k e.symm) (by omega))⟩
set_option maxHeartbeats 3200000 in
theorem rput_c {w : World} {N : Nat} {v : Value} {L : List Wh} (h : RkW w N v L) (hN : N ≤ w.heap.size) (who : Int) (a : Option Addr) (cap : Nat) (l : List (List UInt8)) (hs : SrcS w a l) (hc : l.length ≤ cap) (hm : cap ≤ 9223372036854775807) (hp : ∀ p ∈ l, p.length ≤ 200) :
    Calls Tryd.prog 21 #[v, .agg #[.int .i64 who, .slice a l.length cap]] w (RPutR w N v (askF L who l)) := by
  have hb0 := below_new w (.cells #[.int .i64 who, .slice a l.length cap] 58)
  have hx0 := heap_last w (.cells #[.int .i64 who, .slice a l.length cap] 58)
  have HF := hide (fun (u : World) (hu : Below w.heap.size w u) => rfind_l (w := u) (N := N) (v := v) (L := L) (by obtain ⟨us, h⟩ := h; exact ⟨us, h.below hu⟩) who)
  obtain ⟨us, hA⟩ := h
  obtain ⟨av, cv, rfl, hI, hnone, hsome⟩ := hA.own.is
  have HA := hide hA
  have HNone := hide hnone
  have husl := hA.len
  have hub0 : us.length ≤ 64 := by rw [husl]; exact hA.few
  have Husl := hide husl
  have hI3 := hI.2.1
  have hI4 := hI.2.2.1
  obtain ⟨m, hml⟩ : ∃ m, m = l.length := ⟨_, rfl⟩
  have HS := hide hs
  have HP := hide hp
  have HB0 := hide hb0
  have q0 := blk_cell (i := 0) hx0 rfl
  have q1 := blk_cell (i := 1) hx0 rfl
  rw [← hml] at q0 q1 HB0 ⊢
  clear hA hI hnone hsome hs hp hb0 hx0 husl
  cases hf : L.findIdx? (whoIs who) with
  | some i =>
    obtain ⟨e1, e2⟩ := placeL_some hf
    rw [e1] at HF
    have HR : Hid (∀ w', Below w.heap.size w w' → RPutR w N (.slice av us.length cv) (askF L who l) (.returned (.tuple #[.slice av us.length cv, .int .i64 5])) w') := hide (fun w' hb => by
      have e : askF L who l = .inr 5 := by unfold askF; rw [hf]; rfl
      rw [e]; exact ⟨⟨rfl, by decide⟩, hb⟩)
    generalize RPutR w N (.slice av us.length cv) (askF L who l) = R at *
    have d0 : (0 : Int) ≤ (i : Int) := by omega
    have d1 : decide ((0 : Int) ≤ (i : Int)) = true := decide_eq_true d0
    clear hf e1 e2 hml
    go_enter Tryd.func21, Tryd.ntmps21
    go_wp2_with fail
    refine (HF.out _ HB0.out).mono ?_
    rintro e w1 ⟨rfl, rfl⟩
    have HZ := hide (HR.out _ HB0.out)
    go_wp2
    exact HZ.out
  | none =>
    rw [placeL_none hf] at HF
    have hf2 : (L.findIdx? (whoIs who)).isSome = false := by rw [hf]; rfl
    have HML := hide hml
    by_cases h64 : L.length = 64
    · have HR : Hid (∀ w', Below w.heap.size w w' → RPutR w N (.slice av us.length cv) (askF L who l) (.returned (.tuple #[.slice av us.length cv, .int .i64 3])) w') := hide (fun w' hb => by
        have e : askF L who l = .inr 3 := by unfold askF; rw [hf2]; simp [h64]
        rw [e]; exact ⟨⟨rfl, by decide⟩, hb⟩)
      generalize RPutR w N (.slice av us.length cv) (askF L who l) = R at *
      have d64 : decide ((64 : Int) ≤ (us.length : Int)) = true := decide_eq_true (by have := Husl.out; omega)
      have d64' : decide (64 ≤ us.length) = true := decide_eq_true (by have := Husl.out; omega)
      clear hf hf2 hml
      go_enter Tryd.func21, Tryd.ntmps21
      go_wp2_with fail
      refine (HF.out _ HB0.out).mono ?_
      rintro e w1 ⟨rfl, rfl⟩
      have HZ := hide (HR.out _ HB0.out)
      go_wp2
      exact HZ.out
    · have d64 : decide ((64 : Int) ≤ (us.length : Int)) = false := decide_eq_false (by have := Husl.out; omega)
      have d64' : decide (64 ≤ us.length) = false := decide_eq_false (by have := Husl.out; omega)
      by_cases h16 : 16 < m
      · have HR : Hid (∀ w', Below w.heap.size w w' → RPutR w N (.slice av us.length cv) (askF L who l) (.returned (.tuple #[.slice av us.length cv, .int .i64 2])) w') := hide (fun w' hb => by
          have e : askF L who l = .inr 2 := by unfold askF; rw [hf2, if_neg (by simp), if_neg h64, if_pos (by omega)]
          rw [e]; exact ⟨⟨rfl, by decide⟩, hb⟩)
        generalize RPutR w N (.slice av us.length cv) (askF L who l) = R at *
        have d16 : decide ((16 : Int) < (m : Int)) = true := by simp; omega
        have d16' : decide (16 < m) = true := by simp; omega
        clear hf hf2 hml h64
        go_enter Tryd.func21, Tryd.ntmps21
        go_wp2_with fail
        refine (HF.out _ HB0.out).mono ?_
        rintro e w1 ⟨rfl, rfl⟩
        have HZ := hide (HR.out _ HB0.out)
        go_wp2
        exact HZ.out
      · have d16 : decide ((16 : Int) < (m : Int)) = false := by simp; omega
        have d16' : decide (16 < m) = false := by simp; omega
        have HSet := hide (fun (u : World) (hu : Below w.heap.size w u) => refset_c a cap l u (HS.out.below hu) hc hm (by omega) HP.out)
        rw [← hml] at HSet
        unfold RSet at HSet
        cases hS : setF [] 0 l with
        | inr t =>
          obtain ⟨i, c, b⟩ := t
          rw [hS] at HSet
          have hcc : askF L who l = .inr c ∧ c ≠ 0 := by
            cases b with
            | true =>
              have h9 := setF_flag hS
              exact ⟨by unfold askF; rw [hf2, if_neg (by simp), if_neg h64, if_neg (by omega), hS, h9], by rw [h9]; decide⟩
            | false => exact ⟨by unfold askF; rw [hf2, if_neg (by simp), if_neg h64, if_neg (by omega), hS], setF_code hS⟩
          have HR : Hid (∀ w', Below w.heap.size w w' → RPutR w N (.slice av us.length cv) (askF L who l) (.returned (.tuple #[.slice av us.length cv, .int .i64 c])) w') := hide (fun w' hb => by
            rw [hcc.1]; exact ⟨⟨rfl, hcc.2⟩, hb⟩)
          generalize RPutR w N (.slice av us.length cv) (askF L who l) = R at *
          have n0 : (c != 0) = true := by simpa using hcc.2
          have n1 : (c == 0) = false := by simpa using hcc.2
          clear hf hf2 h64 hml hcc hS
          go_enter Tryd.func21, Tryd.ntmps21
          go_wp2_with fail
          refine (HF.out _ HB0.out).mono ?_
          rintro e w1 ⟨rfl, rfl⟩
          go_wp2_with fail
          refine (HSet.out _ HB0.out).mono ?_
          rintro e w2 ⟨rfl, hb⟩
          have HZ := hide (HR.out w2 (keepB hb (Nat.le_refl _) HB0.out))
          clear hb
          go_wp2
          exact HZ.out
        | inl S =>
          rw [hS] at HSet
          have hSh : ∀ p ∈ S, p.length ≤ 200 := fun p hp => HP.out p ((set_mem hS p).2 hp)
          have HR : Hid (∀ w' v', RkW w' N v' (L ++ [(who, S)]) → Below w.heap.size w w' → RPutR w N (.slice av us.length cv) (askF L who l) (.returned (.tuple #[v', .int .i64 0])) w') := hide (fun w' v' h1 h2 => by
            have e : askF L who l = .inl (L ++ [(who, S)], freeL (L ++ [(who, S)]) L.length) := by unfold askF; rw [hf2, if_neg (by simp), if_neg h64, if_neg (by omega), hS]
            rw [e]; exact ⟨⟨v', rfl, h1⟩, h2⟩)
          generalize RPutR w N (.slice av us.length cv) (askF L who l) = R at *
          have HSh := hide hSh
          have hub : us.length < 64 := by have := Husl.out; omega
          clear hf hf2 h64 hml hS hSh
          go_enter Tryd.func21, Tryd.ntmps21
          go_wp2_with fail
          refine (HF.out _ HB0.out).mono ?_
          rintro e w1 ⟨rfl, rfl⟩
          go_wp2_with fail
          refine (HSet.out _ HB0.out).mono ?_
          rintro e w2 ⟨⟨vS, rfl, hO⟩, hb⟩
          have HB2 := hide (keepB hb (Nat.le_refl _) HB0.out)
          have q0' := keepC hb (Nat.le_refl _) q0
          have hO2 := Pv.OwnS.less hO (Nat.le_trans hN HB0.out.size)
          obtain ⟨aS, cS, rfl, hSf, -, -, -⟩ := hO.form
          have HO2 := hide hO2
          have hb3 := below_new w2 (.cells #[] 58)
          have HB3 := hide (keepB hb3 (Nat.le_refl _) HB2.out)
          have HA3 := hide (HA.out.below HB3.out)
          have HO3 := hide (own_up hO2 hb3)
          have HR3 := hide (OwnR.fresh w2)
          have q3 := keepC hb3 (Nat.le_refl _) q0'
          have hle3 : N ≤ w2.heap.size := Nat.le_trans hN HB2.out.size
          have hle4 : w.heap.size ≤ w2.heap.size := HB2.out.size
          have hBl := hb3.size
          have hlt4 : w.heap.size < w2.heap.size := by have := hb.size; rw [World.size_alloc] at this; omega
          have hI3' : IsAs (w2.alloc (.cells #[] 58)) av us.length cv us := by
            obtain ⟨a', c', e, hI', -⟩ := HA3.out.own.is
            injection e with e1 e2 e3
            subst e1 e3
            exact hI'
          have HI3 := hide hI3'
          have HN3 := hide hb3
          clear hb q0 q1 q0' hO hO2 HB0 HF HSet hb3 hI3' HA3 HO3
          go_wp2_with (refine wpList_appR rfl (.tmp 36) (.tmp 37) rfl (.slice (some ⟨w2.heap.size, 0, none⟩) 0 0) (.slice av us.length cv) w2.heap.size ([] ++ us) rfl rfl (append_asks _ _ _ _ [] us av cv HR3.out hBl HI3.out HNone.out (by have := hub; simp; omega)) ?_)
          intro v4 w4 HO4 HG4
          refine of_hid ?_
          have hB34 : Below w2.heap.size (w2.alloc (.cells #[] 58)) w4 := grown_below HG4.out hBl (fun g e => by
            have e2 : some w2.heap.size = some g := e
            injection e2 with e2
            omega)
          have q4 := (hB34.cell (p := ⟨w.heap.size, 0, none⟩) hlt4).trans q3
          have HB24 := hide (HN3.out.trans hB34)
          have hle5 : w2.heap.size ≤ w4.heap.size := HB24.out.size
          have hb5 := below_new w4 (.cells #[.int .i64 who, .slice aS S.length cS] 58)
          have HX5 := hide (heap_last w4 (.cells #[.int .i64 who, .slice aS S.length cS] 58))
          have hO4 := HO4.out
          have HO5 := hide (hO4.below hb5)
          have HB25 := hide (HB24.out.trans (hb5.mono hle5))
          have hle6 := hb5.size
          clear hB34 hb5 hO4 q3 HO4 HG4 HR3 HI3 HN3 HB24 HB3 hBl
          go_wp2_with (refine wpList_appR rfl (.tmp 39) (.tmp 44) rfl v4 (.slice (some ⟨w4.heap.size, 0, none⟩) 1 1) w2.heap.size (us ++ [(who, aS, S.length, cS)]) rfl rfl (append_one _ _ _ _ us w4.heap.size (who, aS, S.length, cS) _ (0, 0) 1 HO5.out (by omega) HX5.out (by omega) (by omega) (by omega)) ?_)
          intro v6 w6 HO6 HG6
          refine of_hid ?_
          have HB26 := hide (HB25.out.trans (grown_below HG6.out (by omega) (fun g e => (HO5.out.blk e).1)))
          have HB6 := hide (keepB HB26.out (Nat.le_refl _) HB2.out)
          have hZ : RkW w6 N v6 (L ++ [(who, S)]) := by
            have hA6 := HA.out.below HB6.out
            refine ⟨us ++ [(who, aS, S.length, cS)], ?_, ?_, fun i u x h1 h2 => ?_, ?_, fun x hx p hp => ?_⟩
            · obtain ⟨k1, k2⟩ := HO6.out
              refine ⟨k1, ?_⟩
              rcases k2 with k2 | ⟨g, cap, cur, e, hb, r⟩
              · exact .inl k2
              · exact .inr ⟨g, cap, cur, e, Nat.le_trans hle3 hb, r⟩
            · rw [List.length_append, List.length_append, Husl.out]; rfl
            · by_cases hi : i < us.length
              · rw [List.getElem?_append_left hi] at h1
                rw [List.getElem?_append_left (by have := Husl.out; omega)] at h2
                exact hA6.each i u x h1 h2
              · have hi2 : i = us.length := by
                  have := (List.getElem?_eq_some_iff.1 h1).1
                  simp at this
                  omega
                rw [hi2, List.getElem?_append_right (Nat.le_refl _), Nat.sub_self] at h1
                rw [hi2, Husl.out, List.getElem?_append_right (Nat.le_refl _), Nat.sub_self] at h2
                injection h1 with h1
                injection h2 with h2
                subst h1 h2
                exact ⟨rfl, own_up HO2.out HB26.out⟩
            · have := Husl.out
              rw [List.length_append]
              show L.length + 1 ≤ 64
              omega
            · rcases List.mem_append.1 hx with hx | hx
              · exact hA6.short x hx p hp
              · rw [List.mem_singleton.1 hx] at hp
                exact HSh.out p hp
          have HZ := hide (HR.out w6 v6 hZ HB6.out)
          clear hZ HO6 HG6
          go_wp2
          exact HZ.out
end Go.Proofs.YtlhjkacdhfchiaaDoor.Nc
/- Reference 12: Release. -/
namespace Go.Proofs.YtlhjkacdhfchiaaDoor.Nd
set_option linter.unusedVariables false
set_option linter.unusedSimpArgs false
set_option maxRecDepth 100000
open Go.ChangeShapes Go.WideShapes Go.ChangeAt Go.RowKit
open Go.Proofs.YtlhjkacdhfchiaaDoor.Wu Go.Proofs.YtlhjkacdhfchiaaDoor.Rk Go.Proofs.YtlhjkacdhfchiaaDoor.Pm Go.Proofs.YtlhjkacdhfchiaaDoor.Ps Go.Proofs.YtlhjkacdhfchiaaDoor.Pu Go.Proofs.YtlhjkacdhfchiaaDoor.Pv Go.Proofs.YtlhjkacdhfchiaaDoor.Px Go.Proofs.YtlhjkacdhfchiaaDoor.Pra Go.Proofs.YtlhjkacdhfchiaaDoor.La Go.Proofs.YtlhjkacdhfchiaaDoor.Lb Go.Proofs.YtlhjkacdhfchiaaDoor.Lc Go.Proofs.YtlhjkacdhfchiaaDoor.Ld Go.Proofs.YtlhjkacdhfchiaaDoor.Le Go.Proofs.YtlhjkacdhfchiaaDoor.Lf Go.Proofs.YtlhjkacdhfchiaaDoor.Lg Go.Proofs.YtlhjkacdhfchiaaDoor.Lh Go.Proofs.YtlhjkacdhfchiaaDoor.Li Go.Proofs.YtlhjkacdhfchiaaDoor.Lk Go.Proofs.YtlhjkacdhfchiaaDoor.Lu Go.Proofs.YtlhjkacdhfchiaaDoor.Lv Go.Proofs.YtlhjkacdhfchiaaDoor.Lx Go.Proofs.YtlhjkacdhfchiaaDoor.Na Go.Proofs.YtlhjkacdhfchiaaDoor.Nb Go.Proofs.YtlhjkacdhfchiaaDoor.Nc
open Go.Proofs.YtlhjkacdhfchiaaDoor.Ba (of_hid)
attribute [local go_sem] kUpon_value kUpon_skip kUpon_enter
/-- Free before, given free now: but for the one that goes. -/
theorem free_two {L : List Wh} {i : Nat} {x : Wh} (hx : L[i]? = some x) {k : Nat} {y : Wh} (hy : (cut L i)[k]? = some y) (hf : freeL (cut L i) k = true) :
    freeL L (if k < i then k else k + 1) = (decide (k < i) || !(way y.2 x.2)) := by
  obtain ⟨hi, hxe⟩ := List.getElem?_eq_some_iff.1 hx
  have hf2 := (freeL_iff hy).1 hf
  rw [cut_at hi] at hy
  by_cases hk : k < i
  · rw [if_pos hk] at hy ⊢
    rw [decide_eq_true hk, Bool.true_or, freeL_iff hy]
    intro q z hq hz
    exact hf2 q z hq (by rw [cut_at hi, if_pos (by omega)]; exact hz)
  · rw [if_neg hk] at hy ⊢
    rw [decide_eq_false hk, Bool.false_or]
    cases hw : way y.2 x.2 with
    | true =>
      cases hfl : freeL L (k + 1) with
      | false => rfl
      | true =>
        have := (freeL_iff hy).1 hfl i x (by omega) hx
        rw [hw] at this
        cases this
    | false =>
      show freeL L (k + 1) = true
      rw [freeL_iff hy]
      intro q z hq hz
      by_cases hqi : q = i
      · subst hqi
        rw [hx] at hz
        injection hz with hz
        rw [← hz]; exact hw
      · by_cases hlt : q < i
        · exact hf2 q z (by omega) (by rw [cut_at hi, if_pos hlt]; exact hz)
        · exact hf2 (q - 1) z (by omega) (by rw [cut_at hi, if_neg (by omega), show q - 1 + 1 = q by omega]; exact hz)
theorem nx_at {L : List Wh} {i : Nat} {x : Wh} (hx : L[i]? = some x) {k : Nat} {y : Wh} (hy : (cut L i)[k]? = some y) :
    nx (cut L i) x.2 i (k + 1 - i) = nx (cut L i) x.2 i (k - i) ++ (if freeL (cut L i) k && !(freeL L (if k < i then k else k + 1)) then [y.1] else []) := by
  cases hf : freeL (cut L i) k with
  | false =>
    rw [Bool.false_and]
    by_cases hk : k < i
    · rw [show k + 1 - i = 0 by omega, show k - i = 0 by omega]; simp [nx]
    · rw [show k + 1 - i = (k - i) + 1 by omega, nx, show i + (k - i) = k by omega, hy, hf]
      simp
  | true =>
    rw [free_two hx hy hf]
    by_cases hk : k < i
    · rw [show k + 1 - i = 0 by omega, show k - i = 0 by omega, decide_eq_true hk]; simp [nx]
    · rw [show k + 1 - i = (k - i) + 1 by omega, nx, show i + (k - i) = k by omega, hy, hf, decide_eq_false hk]
      cases hw : way y.2 x.2 <;> simp [hw]
theorem cut_find {L : List Wh} (ho : Once L) {i k : Nat} {y : Wh} (hi : i < L.length) (hy : (cut L i)[k]? = some y) : placeL L y.1 = ((if k < i then k else k + 1 : Nat) : Int) ∧ (if k < i then k else k + 1) < L.length := by
  have hy2 : L[if k < i then k else k + 1]? = some y := by
    rw [cut_at hi] at hy
    split at hy <;> rename_i h
    · rw [if_pos h]; exact hy
    · rw [if_neg h]; exact hy
  have := find_at ho hy2
  exact placeL_some this
theorem RkA.same {w w' : World} {N : Nat} {v : Value} {us : List La.Ask} {L : List Wh} (h : RkA w N v us L) (hk : ∀ (k : Nat) (c : Array Value) (T : TypeId) (f : Nat × Nat), w.heap[k]? = some (Obj.cells c T f) → T ≠ 3 → w'.heap[k]? = w.heap[k]?) : RkA w' N v us L :=
  ⟨h.own.same fun g hg => by
    obtain ⟨_, c, f, hc⟩ := h.own.blk hg
    exact hk g _ _ _ hc (by decide), h.len, fun i u x h1 h2 => ⟨(h.each i u x h1 h2).1, (h.each i u x h1 h2).2.same fun g hg => by
    obtain ⟨_, c, f, hc⟩ := Li.OwnS.blk (h.each i u x h1 h2).2 hg
    exact hk g _ _ _ hc (by decide)⟩, h.few, h.short⟩
/-- What is left of a slice of asks, from the k-th on. -/
theorem IsAs.drop {w : World} {g m c : Nat} {us : List La.Ask} (h : IsAs w (some ⟨g, 0, none⟩) m c us) {k : Nat} (hk : k ≤ m) : IsAs w (some (if c = k then ⟨g, 0, none⟩ else ⟨g, k * 2, none⟩)) (us.drop k).length (c - k) (us.drop k) := by
  obtain ⟨h1, h2, h3, g', off, h4, h5⟩ := h
  refine ⟨rfl, by rw [List.length_drop]; omega, by omega, g, k * 2, fun h => ?_, fun i u hi => ?_⟩
  · rw [List.length_drop] at h
    rw [if_neg (by omega)]
  · have hl := (List.getElem?_eq_some_iff.1 hi).1
    rw [List.length_drop] at hl
    rw [List.getElem?_drop] at hi
    have e := h4 (by omega)
    injection e with e
    injection e with e1 e2
    subst e1 e2
    obtain ⟨a1, a2⟩ := h5 _ u hi
    rw [Nat.zero_add, show (k + i) * 2 = k * 2 + i * 2 by omega] at a1 a2
    exact ⟨a1, a2⟩
/-- What Release answers. -/
def RRelR (w : World) (N : Nat) (v : Value) (L : List Wh) (who : Int) (e : Ending) (w' : World) : Prop := (match L.findIdx? (whoIs who) with
  | some i => ∃ v' n' x, L[i]? = some x ∧ e = .returned (.tuple #[v', n', .int .i64 0]) ∧ RkW w' N v' (cut L i) ∧ OwnN w' w.heap.size n' (nx (cut L i) x.2 i (L.length - 1 - i))
  | none => e = .returned (.tuple #[v, .slice none 0 0, .int .i64 4])) ∧ Below w.heap.size w w'
theorem RkW.who {w : World} {N n c : Nat} {a : Option Addr} {L : List Wh} (h : RkW w N (.slice a n c) L) {k : Nat} {y : Wh} (hy : L[k]? = some y) : ∃ g, a = some ⟨g, 0, none⟩ ∧ w.cell? ⟨g, k * 2, none⟩ = some (.int .i64 y.1) := by
  obtain ⟨us, h⟩ := h
  obtain ⟨a', c', e, hI, hnone, hsome⟩ := h.own.is
  injection e with e1 e2 e3
  subst e1
  have hkL := (List.getElem?_eq_some_iff.1 hy).1
  have hk : k < us.length := by rw [h.len]; exact hkL
  obtain ⟨-, -, -, g, off, ha, hc⟩ := hI
  have ha := ha (by omega)
  obtain ⟨g2, e4⟩ := hsome _ ha
  injection e4 with e4 e5
  subst e4 e5
  have hu := List.getElem?_eq_getElem hk
  obtain ⟨c0, -⟩ := hc k _ hu
  rw [Nat.zero_add, (h.each k _ y hu hy).1] at c0
  exact ⟨g, ha, c0⟩
theorem RkW.below {w w' : World} {N : Nat} {v : Value} {L : List Wh} (h : RkW w N v L) (hb : Below w.heap.size w w') : RkW w' N v L := by
  obtain ⟨us, h⟩ := h
  exact ⟨us, h.below hb⟩
theorem RkW.grown {w w' : World} {N B : Nat} {v nv : Value} {L : List Wh} {zs : List Int} (h : RkW w N v L) (ho : OwnN w B nv zs) (hg : w.grownBy w' nv.ownBlock) : RkW w' N v L := by
  obtain ⟨us, h⟩ := h
  exact ⟨us, RkA.same h fun k c T f hc hT => hg.block k (heap_lt hc) (fun e => by
    obtain ⟨_, c2, f2, h2⟩ := ho.blk e.symm
    rw [hc] at h2
    injection h2 with h2
    injection h2 with _ h2 _
    exact hT h2)⟩
set_option maxHeartbeats 6400000 in
theorem rrel_c {w : World} {N : Nat} {v : Value} {L : List Wh} (h : RkW w N v L) (hN : N ≤ w.heap.size) (ho : Once L) (who : Int) :
    Calls Tryd.prog 24 #[v, .int .i64 who] w (RRelR w N v L who) := by
  have HF := hide (rfind_l h who)
  obtain ⟨us, hA⟩ := h
  obtain ⟨av, cv, rfl, hI, hnone, hsome⟩ := hA.own.is
  have HA := hide hA
  have HI := hide hI
  have Husl := hide hA.len
  have hub0 : us.length ≤ 64 := by rw [hA.len]; exact hA.few
  have hI3 := hI.2.1
  have hI4 := hI.2.2.1
  have HO := hide ho
  cases hf : L.findIdx? (whoIs who) with
  | none =>
    rw [placeL_none hf] at HF
    have HR : Hid (RRelR w N (.slice av us.length cv) L who (.returned (.tuple #[.slice av us.length cv, .slice none 0 0, .int .i64 4])) w) := hide (by
      unfold RRelR
      rw [hf]
      exact ⟨rfl, Below.refl _ _⟩)
    generalize RRelR w N (.slice av us.length cv) L who = R at *
    clear hA hI hf ho hnone hsome
    go_enter Tryd.func24, Tryd.ntmps24
    go_wp2_with fail
    refine HF.out.mono ?_
    rintro e w1 ⟨rfl, rfl⟩
    go_wp2
    refine ⟨rfl, _, results_tmp3 rfl _ _ _, ?_⟩
    exact HR.out
  | some i =>
    obtain ⟨e1, hiL⟩ := placeL_some hf
    rw [e1] at HF
    have hiu : i < us.length := by rw [hA.len]; exact hiL
    have hav : ∃ g, av = some ⟨g, 0, none⟩ := by
      cases hv : av with
      | none =>
        have := (hnone hv).1
        rw [this] at hiu
        exact absurd hiu (Nat.not_lt_zero _)
      | some ad =>
        obtain ⟨g, e⟩ := hsome ad hv
        exact ⟨g, by rw [e]⟩
    obtain ⟨g, rfl⟩ := hav
    have hx : L[i]? = some L[i] := List.getElem?_eq_getElem hiL
    obtain ⟨x, hxx⟩ : ∃ x, x = L[i] := ⟨_, rfl⟩
    rw [← hxx] at hx
    have HX := hide hx
    have HR : Hid (∀ w' v' n', RkW w' N v' (cut L i) → OwnN w' w.heap.size n' (nx (cut L i) x.2 i (L.length - 1 - i)) → Below w.heap.size w w' → RRelR w N (.slice (some ⟨g, 0, none⟩) us.length cv) L who (.returned (.tuple #[v', n', .int .i64 0])) w') := hide (fun w' v' n' k1 k2 k3 => by
      unfold RRelR
      rw [hf]
      exact ⟨⟨v', n', x, HX.out, rfl, k1, k2⟩, k3⟩)
    generalize RRelR w N (.slice (some ⟨g, 0, none⟩) us.length cv) L who = R at *
    have HiL := hide hiL
    have hb3 := below_new w (.cells #[] 58)
    have HB3 := hide hb3
    have HR3 := hide (OwnR.fresh w)
    have HI3 := hide (hI.below hb3)
    have hBl := hb3.size
    have d0 : decide ((i : Int) < 0) = false := decide_eq_false (by omega)
    have d1 : (0 : Int) ≤ (i : Int) := by omega
    have d2 : (i : Int) ≤ (cv : Int) := by omega
    have d3 : (0 : Int) ≤ (i : Int) + 1 := by omega
    have d4 : (i : Int) + 1 ≤ (us.length : Int) := by omega
    have hwx : IntKind.i64.wrap ((i : Int) + 1) = (i : Int) + 1 := IntWalk.i64_in _ (by omega)
    clear hA hI hf ho hnone hsome hxx hx hiL e1 hb3
    go_enter Tryd.func24, Tryd.ntmps24
    go_wp2_with fail
    refine HF.out.mono ?_
    rintro e w1 ⟨rfl, rfl⟩
    go_wp2_with (refine wpList_appR rfl (.tmp 17) (.tmp 20) rfl (.slice (some ⟨w1.heap.size, 0, none⟩) 0 0) (.slice (some ⟨g, 0, none⟩) i cv) w1.heap.size ([] ++ us.take i) rfl rfl (by
      have ht := IsAs.take HI3.out (Nat.le_of_lt hiu)
      have hl : (us.take i).length = i := by rw [List.length_take]; omega
      have := append_asks (w1.alloc (.cells #[] 58)) 51 (.slice (some ⟨w1.heap.size, 0, none⟩) 0 0) w1.heap.size [] (us.take i) (some ⟨g, 0, none⟩) cv HR3.out hBl (by rw [hl]; exact ht) (fun e => by cases e) (by rw [hl]; show 0 + i ≤ 1000000; omega)
      rw [hl] at this
      exact this) ?_)
    intro v4 w4 HO4 HG4
    refine of_hid ?_
    have hB4 : Below w1.heap.size (w1.alloc (.cells #[] 58)) w4 := grown_below HG4.out hBl (fun g e => by
      have e2 : some w1.heap.size = some g := e
      injection e2 with e2
      omega)
    have HB4 := hide (HB3.out.trans hB4)
    have hle4 : w1.heap.size ≤ w4.heap.size := HB4.out.size
    have HI4 := hide (HI.out.below HB4.out)
    have hIs := IsAs.drop HI4.out (k := i + 1) (by omega)
    have hdl : (us.drop (i + 1)).length = us.length - (i + 1) := by rw [List.length_drop]
    have hHO4 : OwnR w4 w1.heap.size v4 (us.take i) := HO4.out
    have hap := append_asks w4 51 v4 w1.heap.size (us.take i) (us.drop (i + 1)) _ _ hHO4 hle4 hIs (fun e => by cases e) (by rw [List.length_take, hdl]; omega)
    rw [hdl] at hap
    have HAp := hide hap
    have HO4b := hide hHO4
    clear hB4 hIs hdl hHO4 hap HO4 HG4
    go_upto_region 5 with (fail)
    go_cut [8] (fun u wx => Hid (OwnR wx w1.heap.size u (us.take i ++ us.drop (i + 1))) ∧ Hid (Below w1.heap.size w1 wx))
    case first =>
      by_cases hcv : cv = i + 1
      · subst hcv
        go_wp2_with (refine wpList_appR rfl (.tmp 22) (.tmp 26) rfl v4 (.slice (some ⟨g, 0, none⟩) 0 0) w1.heap.size (us.take i ++ us.drop (i + 1)) rfl rfl (by have := HAp.out; rw [if_pos rfl, show us.length - (i + 1) = 0 by omega, Nat.sub_self] at this; exact this) ?_)
        intro v5 w5 HO5 HG5
        refine of_hid ?_
        have HB5 : Hid (Below w1.heap.size w1 w5) := hide (HB4.out.trans (grown_below HG5.out hle4 (fun g e => (HO4b.out.blk e).1)))
        clear HO4b HG5
        go_wp2_with fail
        go_meet
        exact ⟨HO5, HB5⟩
      · go_wp2_with (refine wpList_appR rfl (.tmp 22) (.tmp 26) rfl v4 (.slice (some ⟨g, (i + 1) * 2, none⟩) (us.length - (i + 1)) (cv - (i + 1))) w1.heap.size (us.take i ++ us.drop (i + 1)) rfl rfl (by have := HAp.out; rw [if_neg hcv] at this; exact this) ?_)
        intro v5 w5 HO5 HG5
        refine of_hid ?_
        have HB5 : Hid (Below w1.heap.size w1 w5) := hide (HB4.out.trans (grown_below HG5.out hle4 (fun g e => (HO4b.out.blk e).1)))
        clear HO4b HG5
        go_wp2_with fail
        go_meet
        exact ⟨HO5, HB5⟩
    case rest =>
      obtain ⟨HO5, HB5⟩ := hcut
      have hlc : (us.take i ++ us.drop (i + 1)).length = (cut L i).length := by
        have := Husl.out
        unfold cut
        simp only [List.length_append, List.length_take, List.length_drop]
        omega
      have hZ : RkA wc N u8 (us.take i ++ us.drop (i + 1)) (cut L i) := by
        have hA5 := HA.out.below HB5.out
        refine ⟨?_, hlc, fun j u y h1 h2 => ?_, ?_, fun y hy p hp => ?_⟩
        · obtain ⟨k1, k2⟩ := HO5.out
          refine ⟨k1, ?_⟩
          rcases k2 with k2 | ⟨g, cap, cur, e, hb, r⟩
          · exact .inl k2
          · exact .inr ⟨g, cap, cur, e, Nat.le_trans hN hb, r⟩
        · have hu2 : us[if j < i then j else j + 1]? = some u := by
            by_cases hj : j < i
            · rw [if_pos hj]
              rw [List.getElem?_append_left (by rw [List.length_take]; omega), List.getElem?_take_of_lt hj] at h1
              exact h1
            · rw [if_neg hj]
              rw [List.getElem?_append_right (by rw [List.length_take]; omega), List.length_take, List.getElem?_drop] at h1
              rw [show i + 1 + (j - min i us.length) = j + 1 by omega] at h1
              exact h1
          have hy2 : L[if j < i then j else j + 1]? = some y := by
            rw [cut_at HiL.out] at h2
            split at h2 <;> rename_i h
            · rw [if_pos h]; exact h2
            · rw [if_neg h]; exact h2
          exact hA5.each _ u y hu2 hy2
        · have h1 := hA5.few
          have h2 := cut_len HiL.out
          omega
        · refine hA5.short y ?_ p hp
          unfold cut at hy
          rcases List.mem_append.1 hy with hy | hy
          · exact List.mem_of_mem_take hy
          · exact List.mem_of_mem_drop hy
      obtain ⟨n, hn⟩ : ∃ n, n = (cut L i).length := ⟨_, rfl⟩
      obtain ⟨ao, co, hu8, hIo, -⟩ := hZ.own.is
      rw [hlc, ← hn] at hu8
      subst hu8
      have hco : co ≤ 9223372036854775807 := hIo.2.2.1
      have hnn : n ≤ 64 := by rw [hn]; exact hZ.few
      have HZ : Hid (RkW wc N (.slice ao n co) (cut L i)) := hide ⟨_, hZ⟩
      have HL : Hid (RkW wc N (.slice (some ⟨g, 0, none⟩) us.length cv) L) := hide ⟨us, HA.out.below HB5.out⟩
      have Hn := hide hn
      clear hZ hIo hlc hn HO5 HA HI HR3 HI3 HI4 HB3 HB4 HAp HO4b HF hle4 hBl
      go_wp2_with fail
      go_loopw [9, 10] (fun nv j wr => ∃ k : Nat, j = .int .i64 (k : Int) ∧ k ≤ n ∧ RkW wr N (.slice (some ⟨g, 0, none⟩) us.length cv) L ∧ RkW wr N (.slice ao n co) (cut L i) ∧ OwnN wr w1.heap.size nv (nx (cut L i) x.2 i (k - i)) ∧ Below w1.heap.size w1 wr) (fun _ j _ => n - (intOf j).toNat)
      case atStart => exact ⟨0, rfl, Nat.zero_le _, HL.out, HZ.out, by rw [Nat.zero_sub]; exact OwnN.nil _ _, HB5.out⟩
      case round =>
        clear HL HZ HB5
        obtain ⟨k, rfl, hk, h1, h2, h3, h4⟩ := hrel
        have H1 := hide h1
        have H2 := hide h2
        have H3 := hide h3
        have H4 := hide h4
        clear h1 h2 h3 h4
        by_cases hlk : k < n
        · have hex : ∃ y, (cut L i)[k]? = some y := ⟨(cut L i)[k]'(by rw [← Hn.out]; exact hlk), List.getElem?_eq_getElem (by rw [← Hn.out]; exact hlk)⟩
          obtain ⟨y, hy⟩ := hex
          have HHas := hide (rhas_l H2.out (i := k) (by rw [← Hn.out]; exact hlk))
          have hnx := nx_at HX.out hy
          obtain ⟨idx, hidx⟩ : ∃ idx, idx = (if k < i then k else k + 1) := ⟨_, rfl⟩
          have hcf := cut_find HO.out HiL.out hy
          rw [← hidx] at hcf hnx
          obtain ⟨fb, hfb⟩ : ∃ fb, fb = freeL (cut L i) k := ⟨_, rfl⟩
          obtain ⟨fl, hfl⟩ : ∃ fl, fl = freeL L idx := ⟨_, rfl⟩
          rw [← hfb] at HHas hnx
          rw [← hfl] at hnx
          have HNx := hide hnx
          have HCf := hide hcf
          have HFl := hide hfl
          have Hy := hide hy
          have d5 : decide ((k : Int) < (n : Int)) = true := by simpa using hlk
          have k1 : (0 : Int) ≤ (k : Int) := by omega
          have k2 : (k : Int) < (n : Int) := by omega
          clear hnx hcf hidx hfb hfl hy
          go_wp2_with fail
          refine HHas.out.mono ?_
          rintro e w6 ⟨rfl, hb⟩
          have HL6 := hide (RkW.below H1.out hb)
          have HZ6 := hide (RkW.below H2.out hb)
          have HN6 := hide (H3.out.below hb)
          have HB6 := hide (keepB hb (Nat.le_refl _) H4.out)
          clear hb HHas H1 H2 H3 H4
          cases fb with
          | false =>
            have HNx2 : Hid (nx (cut L i) x.2 i (k + 1 - i) = nx (cut L i) x.2 i (k - i)) := hide (by rw [HNx.out]; simp)
            go_wp2
            go_roundw
            case rel => exact ⟨k + 1, by go_num, by omega, HL6.out, HZ6.out, by rw [HNx2.out]; exact HN6.out, HB6.out⟩
            case measure => simp [intOf]; omega
          | true =>
            obtain ⟨go, hao, c0⟩ := RkW.who HZ6.out Hy.out
            subst hao
            obtain ⟨who2, hw2⟩ : ∃ who2, who2 = y.1 := ⟨_, rfl⟩
            rw [← hw2] at c0 HNx HCf
            have HFd := hide (rfind_l HL6.out who2)
            rw [HCf.out.1] at HFd
            have HHl := hide (rhas_l HL6.out (i := idx) HCf.out.2)
            rw [← HFl.out] at HHl
            clear hw2
            go_wp2_with fail
            refine HFd.out.mono ?_
            rintro e w7 ⟨rfl, rfl⟩
            go_wp2_with fail
            refine HHl.out.mono ?_
            rintro e w8 ⟨rfl, hb⟩
            have HL8 := hide (RkW.below HL6.out hb)
            have HZ8 := hide (RkW.below HZ6.out hb)
            have HN8 := hide (HN6.out.below hb)
            have HB8 := hide (keepB hb (Nat.le_refl _) HB6.out)
            have c8 := keepC hb (Nat.le_refl _) c0
            clear hb HFd HHl HL6 HZ6 HN6 HB6 c0
            cases fl with
            | true =>
              have HNx2 : Hid (nx (cut L i) x.2 i (k + 1 - i) = nx (cut L i) x.2 i (k - i)) := hide (by rw [HNx.out]; simp)
              go_wp2
              go_roundw
              case rel => exact ⟨k + 1, by go_num, by omega, HL8.out, HZ8.out, by rw [HNx2.out]; exact HN8.out, HB8.out⟩
              case measure => simp [intOf]; omega
            | false =>
              have HNx2 : Hid (nx (cut L i) x.2 i (k + 1 - i) = nx (cut L i) x.2 i (k - i) ++ [who2]) := hide (by rw [HNx.out]; simp)
              have hb9 := below_new w8 (.cells #[.int .i64 who2] 3)
              have HL9 := hide (RkW.below HL8.out hb9)
              have HZ9 := hide (RkW.below HZ8.out hb9)
              have HN9 := hide (HN8.out.below hb9)
              have HB9 := hide (keepB hb9 (Nat.le_refl _) HB8.out)
              have HX9 := hide (heap_last w8 (.cells #[.int .i64 who2] 3))
              have hwl : (nx (cut L i) x.2 i (k - i)).length ≤ 1000000 := Nat.le_trans (nx_len _ _ _ _) (by omega)
              have hs9 : w1.heap.size ≤ (w8.alloc (.cells #[.int .i64 who2] 3)).heap.size := HB9.out.size
              clear hb9 HL8 HZ8 HN8 HB8
              go_wp2_with (refine wpList_appN rfl (.tmp 49) (.tmp 55) rfl _ w1.heap.size (nx (cut L i) x.2 i (k - i)) w8.heap.size who2 3 (0, 0) 1 rfl rfl HN9.out hs9 HX9.out hwl ?_)
              intro v10 w10 HO10 HG10
              refine of_hid ?_
              have HL10 := hide (RkW.grown HL9.out HN9.out HG10.out)
              have HZ10 := hide (RkW.grown HZ9.out HN9.out HG10.out)
              have HB10 := hide (HB9.out.trans (grown_below HG10.out hs9 (fun g e => (HN9.out.blk e).1)))
              clear HL9 HZ9 HN9 HB9 HG10 HX9 hs9 hwl c8
              go_wp2
              go_roundw
              case rel => exact ⟨k + 1, by go_num, by omega, HL10.out, HZ10.out, by rw [HNx2.out]; exact HO10.out, HB10.out⟩
              case measure => simp [intOf]; omega
        · obtain rfl : k = n := by omega
          have d5 : decide ((k : Int) < (k : Int)) = false := by simp
          have hcl := cut_len HiL.out
          have HEnd := hide (HR.out _ _ _ H2.out (by rw [← show k - i = L.length - 1 - i by rw [Hn.out]; omega]; exact H3.out) H4.out)
          clear hcl
          go_wp2
          refine ⟨rfl, _, results_tmp3 rfl _ _ _, ?_⟩
          exact HEnd.out
end Go.Proofs.YtlhjkacdhfchiaaDoor.Nd
/- LockPlays: the Locks are like the reference's asks. -/
namespace Go.Proofs.YtlhjkacdhfchiaaDoor.Ne
set_option linter.unusedVariables false
set_option linter.unusedSimpArgs false
set_option maxRecDepth 100000
open Go.ChangeShapes Go.WideShapes Go.ChangeAt Go.RowKit
open Go.Proofs.YtlhjkacdhfchiaaDoor.Wu Go.Proofs.YtlhjkacdhfchiaaDoor.Rk Go.Proofs.YtlhjkacdhfchiaaDoor.Pm Go.Proofs.YtlhjkacdhfchiaaDoor.Pd Go.Proofs.YtlhjkacdhfchiaaDoor.Ps Go.Proofs.YtlhjkacdhfchiaaDoor.Pu Go.Proofs.YtlhjkacdhfchiaaDoor.Pv Go.Proofs.YtlhjkacdhfchiaaDoor.Px Go.Proofs.YtlhjkacdhfchiaaDoor.La Go.Proofs.YtlhjkacdhfchiaaDoor.Lb Go.Proofs.YtlhjkacdhfchiaaDoor.Lc Go.Proofs.YtlhjkacdhfchiaaDoor.Le Go.Proofs.YtlhjkacdhfchiaaDoor.Lg Go.Proofs.YtlhjkacdhfchiaaDoor.Lh Go.Proofs.YtlhjkacdhfchiaaDoor.Li Go.Proofs.YtlhjkacdhfchiaaDoor.Lk Go.Proofs.YtlhjkacdhfchiaaDoor.Lo Go.Proofs.YtlhjkacdhfchiaaDoor.Lu Go.Proofs.YtlhjkacdhfchiaaDoor.Lx Go.Proofs.YtlhjkacdhfchiaaDoor.Na Go.Proofs.YtlhjkacdhfchiaaDoor.Nb Go.Proofs.YtlhjkacdhfchiaaDoor.Nc Go.Proofs.YtlhjkacdhfchiaaDoor.Nd
attribute [local go_sem] kUpon_value kUpon_skip kUpon_enter
/-- Who has a path, as those before the k-th tell. -/
def seen (L : List Wh) (p : List UInt8) : Nat → Int × Bool
  | 0 => (0, false)
  | k + 1 => match L[k]? with
    | some x => if freeL L k && hasP p x.2 then (x.1, true) else seen L p k
    | none => seen L p k
theorem seen_at {L : List Wh} {p : List UInt8} {k : Nat} {x : Wh} (h : L[k]? = some x) : seen L p (k + 1) = if freeL L k && hasP p x.2 then (x.1, true) else seen L p k := by
  rw [seen, h]
theorem hasP_mem {p : List UInt8} {T : List (List UInt8)} : hasP p T = true ↔ p ∈ T := by
  unfold hasP
  rw [List.any_eq_true]
  constructor
  · rintro ⟨q, hq, h⟩
    have : q = p := by simpa [isP] using h
    exact this ▸ hq
  · intro h
    exact ⟨p, h, by simp [isP]⟩
theorem seen_all (L : List Wh) (p : List UInt8) : seen L p L.length = holdL L p := by
  have h0 : ∀ k, (∀ (j : Nat) (x : Wh), j < k → L[j]? = some x → hasP p x.2 = false) → seen L p k = (0, false) := by
    intro k
    induction k with
    | zero => intro _; rfl
    | succ k ih =>
      intro h
      rw [seen]
      have hk := ih fun j x hj hx => h j x (by omega) hx
      cases hx : L[k]? with
      | none => exact hk
      | some x =>
        simp only
        rw [h k x (by omega) hx, Bool.and_false]
        simpa using hk
  unfold holdL
  cases hf : L.findIdx? (fun x => hasP p x.2) with
  | none =>
    rw [List.findIdx?_eq_none_iff] at hf
    exact h0 _ fun j x _ hx => hf x (List.mem_of_getElem? hx)
  | some i =>
    obtain ⟨hi, he, hb⟩ := List.findIdx?_eq_some_iff_getElem.1 hf
    have hx : L[i]? = some L[i] := List.getElem?_eq_getElem hi
    obtain ⟨x, hxe⟩ : ∃ x, x = L[i] := ⟨_, rfl⟩
    rw [← hxe] at hx he
    have hlow : seen L p i = (0, false) := h0 i fun j y hj hy => by
      obtain ⟨hjl, hje⟩ := List.getElem?_eq_some_iff.1 hy
      have := hb j hj
      rw [hje] at this
      simpa using this
    have hup : ∀ d, i + 1 + d ≤ L.length → seen L p (i + 1 + d) = if freeL L i then (x.1, true) else (0, false) := by
      intro d
      induction d with
      | zero =>
        intro _
        rw [Nat.add_zero, seen_at hx, he, Bool.and_true, hlow]
      | succ d ih =>
        intro hd
        have hy : L[i + 1 + d]? = some (L[i + 1 + d]'(by omega)) := List.getElem?_eq_getElem _
        rw [show i + 1 + (d + 1) = (i + 1 + d) + 1 by omega, seen_at hy, ← ih (by omega)]
        rw [if_neg]
        intro hc
        simp only [Bool.and_eq_true] at hc
        obtain ⟨c1, c2⟩ := hc
        have := free_way c1 hy hx (by omega)
        rw [Bool.eq_false_iff] at this
        exact this (way_iff.2 ⟨p, hasP_mem.1 c2, p, hasP_mem.1 he, by unfold hits; simp⟩)
    have := hup (L.length - (i + 1)) (by omega)
    rw [show i + 1 + (L.length - (i + 1)) = L.length by omega] at this
    simp only
    rw [this, hx]
    rfl
/-- One of the reference's asks, by its cells. -/
theorem RkW.at {w : World} {N n c : Nat} {a : Option Addr} {L : List Wh} (h : RkW w N (.slice a n c) L) {k : Nat} {y : Wh} (hy : L[k]? = some y) :
    ∃ g aa cc, a = some ⟨g, 0, none⟩ ∧ w.cell? ⟨g, k * 2, none⟩ = some (.int .i64 y.1) ∧ w.cell? ⟨g, k * 2 + 1, none⟩ = some (.slice aa y.2.length cc) ∧ SrcS w aa y.2 ∧ y.2.length ≤ cc ∧ cc ≤ 9223372036854775807 := by
  obtain ⟨us, h⟩ := h
  obtain ⟨a', c', e, hI, hnone, hsome⟩ := h.own.is
  injection e with e1 e2 e3
  subst e1
  have hkL := (List.getElem?_eq_some_iff.1 hy).1
  have hk : k < us.length := by rw [h.len]; exact hkL
  obtain ⟨-, -, -, g, off, ha, hc⟩ := hI
  have ha := ha (by omega)
  obtain ⟨g2, e4⟩ := hsome _ ha
  injection e4 with e4 e5
  subst e4 e5
  have hu := List.getElem?_eq_getElem hk
  obtain ⟨c0, c1⟩ := hc k _ hu
  obtain ⟨w1, hO⟩ := h.each k _ y hu hy
  rw [Nat.zero_add] at c0 c1
  rw [w1] at c0
  obtain ⟨aa, cap, e6, hl, hm, -, -⟩ := hO.form
  rw [e6] at c1 hO
  unfold maxLen at hm
  exact ⟨g, aa, cap, ha, c0, c1, hO.src, hl, by omega⟩
theorem RkW.len {w : World} {N n c : Nat} {a : Option Addr} {L : List Wh} (h : RkW w N (.slice a n c) L) : n = L.length := by
  obtain ⟨us, h⟩ := h
  obtain ⟨a', c', e, -⟩ := h.own.is
  injection e with e1 e2 e3
  rw [e2, h.len]
theorem has_find {L : List Wh} {who : Int} (h : hasL L who = true) : decide (placeL L who < 0) = false := by
  unfold hasL at h
  cases hf : L.findIdx? (whoIs who) with
  | none => rw [hf] at h; cases h
  | some i =>
    rw [(placeL_some hf).1]
    exact decide_eq_false (by omega)
theorem waits_at {L : List Wh} (ho : Once L) {i : Nat} {x : Wh} (hx : L[i]? = some x) : waitL L x.1 = !freeL L i := by
  unfold waitL
  rw [find_at ho hx]
end Go.Proofs.YtlhjkacdhfchiaaDoor.Ne
/- LockPlays: like. -/
namespace Go.Proofs.YtlhjkacdhfchiaaDoor.Nf
set_option linter.unusedVariables false
set_option linter.unusedSimpArgs false
set_option maxRecDepth 100000
open Go.ChangeShapes Go.WideShapes Go.ChangeAt Go.RowKit
open Go.Proofs.YtlhjkacdhfchiaaDoor.Wu Go.Proofs.YtlhjkacdhfchiaaDoor.Rk Go.Proofs.YtlhjkacdhfchiaaDoor.Pm Go.Proofs.YtlhjkacdhfchiaaDoor.Pd Go.Proofs.YtlhjkacdhfchiaaDoor.Ps Go.Proofs.YtlhjkacdhfchiaaDoor.Pu Go.Proofs.YtlhjkacdhfchiaaDoor.Pv Go.Proofs.YtlhjkacdhfchiaaDoor.Px Go.Proofs.YtlhjkacdhfchiaaDoor.La Go.Proofs.YtlhjkacdhfchiaaDoor.Lb Go.Proofs.YtlhjkacdhfchiaaDoor.Lc Go.Proofs.YtlhjkacdhfchiaaDoor.Le Go.Proofs.YtlhjkacdhfchiaaDoor.Lg Go.Proofs.YtlhjkacdhfchiaaDoor.Lh Go.Proofs.YtlhjkacdhfchiaaDoor.Li Go.Proofs.YtlhjkacdhfchiaaDoor.Lk Go.Proofs.YtlhjkacdhfchiaaDoor.Lo Go.Proofs.YtlhjkacdhfchiaaDoor.Lu Go.Proofs.YtlhjkacdhfchiaaDoor.Lx Go.Proofs.YtlhjkacdhfchiaaDoor.Na Go.Proofs.YtlhjkacdhfchiaaDoor.Nb Go.Proofs.YtlhjkacdhfchiaaDoor.Nc Go.Proofs.YtlhjkacdhfchiaaDoor.Nd Go.Proofs.YtlhjkacdhfchiaaDoor.Ne
attribute [local go_sem] kUpon_value kUpon_skip kUpon_enter
/-- The Locks and the reference's asks, alike, above all that there was. -/
structure Bo (w0 : World) (N P : Nat) (v : Value) (L : List Wh) (w : World) : Prop where
  lk : LkW w N P L
  rk : RkW w N v L
  below : Below w0.heap.size w0 w
theorem Bo.up {w0 w w' : World} {N P : Nat} {v : Value} {L : List Wh} (h : Bo w0 N P v L w) (hb : Below w.heap.size w w') : Bo w0 N P v L w' := ⟨h.lk.below hb, RkW.below h.rk hb, keepB hb (Nat.le_refl _) h.below⟩
set_option maxHeartbeats 6400000 in
theorem like_c {w0 w : World} {N P n c : Nat} {a : Option Addr} {L : List Wh} (h : Bo w0 N P (.slice a n c) L w) (ho : Once L) (hfew : L.length ≤ 64) (ask : List UInt8) :
    Calls Tryd.prog 26 #[.pointer (some ⟨P, 0, none⟩), .slice a n c, .string (bs ask)] w fun e w' => e = .returned (.bool true) ∧ Below w.heap.size w w' := by
  have hn := RkW.len h.rk
  have Hn := hide hn
  have hnn : n ≤ 64 := by omega
  have HO := hide ho
  have HLen := hide (len_c h.lk)
  rw [← hn] at HLen
  have HHas := hide (has_c h.lk (-77))
  obtain ⟨hb0, hhb⟩ : ∃ b, b = hasL L (-77) := ⟨_, rfl⟩
  have HFd : Hid (hb0 = true → decide (placeL L (-77) < 0) = false) := hide (fun e => has_find (by rw [← hhb]; exact e))
  rw [← hhb] at HHas
  have H := hide (show Bo w N P (.slice a n c) L w from ⟨h.lk, h.rk, Below.refl _ _⟩)
  have n0 : ((n : Int) != (n : Int)) = false := by simp
  clear h hn ho hfew hhb
  go_enter Tryd.func26, Tryd.ntmps26
  go_upto_region 1 with (fail)
  go_cut [29] (fun u wx => u = .bool false ∧ Bo w N P (.slice a n c) L wx)
  case first =>
    go_wp2_with fail
    refine HLen.out.mono ?_
    rintro e w1 ⟨rfl, rfl⟩
    go_wp2_with fail
    refine HHas.out.mono ?_
    rintro e w2 ⟨rfl, hb⟩
    have H2 := hide (H.out.up hb)
    clear hb H HHas HLen
    cases hb0 with
    | false =>
      go_wp2_with fail
      go_meet
      exact ⟨rfl, H2.out⟩
    | true =>
      have hfd := HFd.out rfl
      have HF2 := hide (rfind_l H2.out.rk (-77))
      go_wp2_with fail
      refine HF2.out.mono ?_
      rintro e w3 ⟨rfl, rfl⟩
      go_wp2_with fail
      go_meet
      exact ⟨rfl, H2.out⟩
  case rest =>
    obtain ⟨hu29, hB⟩ := hcut
    subst hu29
    have HB := hide hB
    clear hB H HLen HHas HFd
    go_wp2_with fail
    go_loopw [7, 8, 32] (fun hv tv j wr => ∃ k : Nat, j = .int .i64 (k : Int) ∧ k ≤ n ∧ hv = .int .i64 (Ne.seen L ask k).1 ∧ tv = .bool (Ne.seen L ask k).2 ∧ Bo w N P (.slice a n c) L wr) (fun _ _ j _ => n - (intOf j).toNat)
    case atStart => exact ⟨0, rfl, Nat.zero_le _, rfl, rfl, HB.out⟩
    case round =>
      clear HB
      obtain ⟨k, rfl, hk, rfl, rfl, hB⟩ := hrel
      have HB := hide hB
      clear hB
      by_cases hlk : k < n
      · have hex : ∃ y, L[k]? = some y := ⟨L[k]'(by rw [← Hn.out]; exact hlk), List.getElem?_eq_getElem (by rw [← Hn.out]; exact hlk)⟩
        obtain ⟨y, hy⟩ := hex
        have HSn := hide (seen_at (p := ask) hy)
        have HHs := hide (has_at HO.out hy)
        have HWt := hide (waits_at HO.out hy)
        have Hkl : Hid (k < L.length) := hide (by rw [← Hn.out]; exact hlk)
        obtain ⟨g, aa, cc, hag, c0, c1, hsrc, hl1, hl2⟩ := RkW.at HB.out.rk hy
        subst hag
        obtain ⟨who, hwho⟩ : ∃ who, who = y.1 := ⟨_, rfl⟩
        obtain ⟨T, hT⟩ : ∃ T, T = y.2 := ⟨_, rfl⟩
        obtain ⟨tm, htm⟩ : ∃ tm, tm = T.length := ⟨_, rfl⟩
        rw [← hT] at c1 hsrc hl1 HSn
        rw [← htm] at c1 hl1
        rw [← hwho] at c0 HHs HWt HSn
        obtain ⟨fb, hfb⟩ : ∃ fb, fb = freeL L k := ⟨_, rfl⟩
        rw [← hfb] at HHs HWt HSn
        have HFb := hide hfb
        obtain ⟨s, hs⟩ : ∃ s, s = Ne.seen L ask k := ⟨_, rfl⟩
        rw [← hs] at HSn ⊢
        obtain ⟨s1, s2⟩ := s
        have Htm := hide htm
        have hb5 := below_new wr (.cells #[.int .i64 who, .slice aa tm cc] 58)
        have HX5 := hide (heap_last wr (.cells #[.int .i64 who, .slice aa tm cc] 58))
        have HB5 := hide (HB.out.up hb5)
        have HS5 := hide (hsrc.below hb5)
        have d1 : decide ((k : Int) < (n : Int)) = true := by simpa using hlk
        have i1 : (0 : Int) ≤ (k : Int) := by omega
        have i2 : (k : Int) < (n : Int) := by omega
        clear hy hwho hT hfb hs htm hb5 hsrc HB
        go_wp2_with fail
        clear c0 c1
        generalize wr.alloc (.cells #[.int .i64 who, .slice aa tm cc] 58) = w5 at *
        generalize wr.heap.size = Bk at *
        have HH1 := hide (rhas_l HB5.out.rk Hkl.out)
        rw [← HFb.out] at HH1
        refine HH1.out.mono ?_
        rintro e w6 ⟨rfl, hb⟩
        have HB6 := hide (HB5.out.up hb)
        have HX6 := hide (below_blk hb (heap_lt HX5.out) HX5.out)
        have HS6 := hide (HS5.out.below hb)
        clear hb HB5 HX5 HS5 HH1
        have q0 := blk_cell (i := 0) HX6.out rfl
        have HH2 := hide (has_c HB6.out.lk who)
        rw [HHs.out] at HH2
        go_wp2_with fail
        refine HH2.out.mono ?_
        rintro e w7 ⟨rfl, hb⟩
        have HB7 := hide (HB6.out.up hb)
        have HX7 := hide (below_blk hb (heap_lt HX6.out) HX6.out)
        have HS7 := hide (HS6.out.below hb)
        clear hb HB6 HX6 HS6 HH2 q0
        have q0 := blk_cell (i := 0) HX7.out rfl
        have n1 : (fb != fb) = false := by simp
        have HH3 := hide (waits_c HB7.out.lk who)
        rw [HWt.out] at HH3
        go_wp2_with fail
        refine HH3.out.mono ?_
        rintro e w8 ⟨rfl, hb⟩
        have HB8 := hide (HB7.out.up hb)
        have HX8 := hide (below_blk hb (heap_lt HX7.out) HX7.out)
        have HS8 := hide (HS7.out.below hb)
        clear hb HB7 HX7 HS7 HH3 q0 n1
        have q0 := blk_cell (i := 0) HX8.out rfl
        have q1 := blk_cell (i := 1) HX8.out rfl
        have n2 : ((!fb) == fb) = false := by cases fb <;> rfl
        go_wp2_with fail
        obtain ⟨bb, off, hta, htc⟩ := HS8.out
        rw [← Htm.out] at hta
        have HTa := hide hta
        have HTc := hide htc
        clear hta htc n2
        go_loopw [7, 8, 57] (fun hv tv j wq => ∃ (q : Nat) (u1 : Int) (u2 : Bool), j = .int .i64 (q : Int) ∧ q ≤ tm ∧ hv = .int .i64 u1 ∧ tv = .bool u2 ∧ Hid ((u1, u2) = if fb && hasP ask (T.take q) then (who, true) else (s1, s2)) ∧ wq = w8) (fun _ _ j _ => tm - (intOf j).toNat)
        case atStart => exact ⟨0, s1, s2, rfl, Nat.zero_le _, rfl, rfl, (show (s1, s2) = if fb && hasP ask (T.take 0) then (who, true) else (s1, s2) by rw [List.take_zero]; simp [hasP]), rfl⟩
        case round =>
          obtain ⟨q, u1, u2, rfl, hq, rfl, rfl, HU, rfl⟩ := hrel
          by_cases hlq : q < tm
          · have hex : ∃ z, T[q]? = some z := ⟨T[q]'(by rw [← Htm.out]; exact hlq), List.getElem?_eq_getElem (by rw [← Htm.out]; exact hlq)⟩
            obtain ⟨z, hz⟩ := hex
            have cz := HTc.out q z hz
            have ea := HTa.out (by omega)
            subst ea
            have HTk : Hid (hasP ask (T.take (q + 1)) = (hasP ask (T.take q) || decide (z = ask))) := hide (by
              unfold hasP
              rw [List.take_add_one, hz, List.any_append]
              simp [isP])
            have heq := eq_texts z ask
            have d2 : decide ((q : Int) < (tm : Int)) = true := by simpa using hlq
            have j1 : (0 : Int) ≤ (q : Int) := by omega
            have j2 : (q : Int) < (tm : Int) := by omega
            clear hz
            cases fb with
            | false =>
              have HU2 : Hid ((u1, u2) = if false && hasP ask (T.take (q + 1)) then (who, true) else (s1, s2)) := hide (by have := HU.out; simpa using this)
              go_wp2
              go_roundw
              case rel => exact ⟨q + 1, u1, u2, by go_num, by omega, rfl, rfl, HU2, trivial⟩
              case measure => simp [intOf]; omega
            | true =>
              by_cases hza : z = ask
              · rw [decide_eq_true hza] at heq HTk
                have HU2 : Hid ((who, true) = if true && hasP ask (T.take (q + 1)) then (who, true) else (s1, s2)) := hide (by rw [HTk.out]; simp)
                clear hza
                go_wp2
                go_roundw
                case rel => exact ⟨q + 1, who, true, by go_num, by omega, rfl, rfl, HU2, trivial⟩
                case measure => simp [intOf]; omega
              · rw [decide_eq_false hza] at heq HTk
                have HU2 : Hid ((u1, u2) = if true && hasP ask (T.take (q + 1)) then (who, true) else (s1, s2)) := hide (by rw [HTk.out, Bool.or_false]; exact HU.out)
                clear hza
                go_wp2
                go_roundw
                case rel => exact ⟨q + 1, u1, u2, by go_num, by omega, rfl, rfl, HU2, trivial⟩
                case measure => simp [intOf]; omega
          · obtain rfl : q = tm := by omega
            have d2 : decide ((q : Int) < (q : Int)) = false := by simp
            have HEnd : Hid (Ne.seen L ask (k + 1) = (u1, u2)) := hide (by
              have := HU.out
              rw [List.take_of_length_le (by rw [← Htm.out]; exact Nat.le_refl _)] at this
              rw [HSn.out, this])
            go_wp2
            go_roundw
            case rel => exact ⟨k + 1, by go_num, by omega, by rw [HEnd.out], by rw [HEnd.out], HB8.out⟩
            case measure => simp [intOf]; omega
      · obtain rfl : k = n := by omega
        have d1 : decide ((k : Int) < (k : Int)) = false := by simp
        have HHd := hide (holder_c HB.out.lk ask)
        rw [← seen_all, ← Hn.out] at HHd
        obtain ⟨s, hs⟩ : ∃ s, s = Ne.seen L ask k := ⟨_, rfl⟩
        rw [← hs] at HHd ⊢
        obtain ⟨s1, s2⟩ := s
        have n1 : (s2 == s2) = true := by simp
        have n2 : (s1 == s1) = true := by simp
        clear hs
        go_wp2_with fail
        refine HHd.out.mono ?_
        rintro e w6 ⟨rfl, hb⟩
        have HB6 := hide (HB.out.up hb)
        clear hb HHd HB
        go_wp2
        go_ret
        exact ⟨rfl, HB6.out.below⟩
end Go.Proofs.YtlhjkacdhfchiaaDoor.Nf
/- errors.As at an error of two: what it finds in the first. -/
namespace Go.Proofs.YtlhjkacdhfchiaaDoor.Pk
set_option linter.unusedVariables false
set_option linter.unusedSimpArgs false
set_option maxRecDepth 100000
open Go.RowKit Go.Extern.Stop Go.Stop Go.Extern
open Go.Proofs.YtlhjkacdhfchiaaDoor.Wu Go.Proofs.YtlhjkacdhfchiaaDoor.Er Go.Proofs.YtlhjkacdhfchiaaDoor.Es Go.Proofs.YtlhjkacdhfchiaaDoor.Et Go.Proofs.YtlhjkacdhfchiaaDoor.Eu Go.Proofs.YtlhjkacdhfchiaaDoor.Px
theorem typeOfJ (v : Value) (w : World) : (ReflectliteType.typeOf #[.iface 183 v]).run Tryd.prog w = .ok (.iface 200 (.agg #[.pointer (some ⟨4, 183, none⟩)])) w := by kernel_rfl
theorem asgJE (w : World) : (ReflectliteType.relation "AssignableTo" ReflectliteType.assignableTo #[.agg #[.pointer (some ⟨4, 183, none⟩)], .iface 200 (.agg #[.pointer (some ⟨4, 28, none⟩)])]).run Tryd.prog w = .ok (.bool false) w := by kernel_rfl
theorem asgJF (w : World) : (ReflectliteType.relation "AssignableTo" ReflectliteType.assignableTo #[.agg #[.pointer (some ⟨4, 183, none⟩)], .iface 200 (.agg #[.pointer (some ⟨4, 96, none⟩)])]).run Tryd.prog w = .ok (.bool false) w := by kernel_rfl
theorem noAsJ (v : Value) (xT : TypeId) (w : World) : (Instr.typeAssert (.iface 183 v) xT 210 true).run Tryd.prog w = .ok (.tuple #[.nilIface, .bool false]) w := run_typeAssert_lacksB Tryd.underlying210 (by kernel_rfl) (by kernel_rfl) v xT w
theorem noUnwrapJ (v : Value) (xT : TypeId) (w : World) : (Instr.typeAssert (.iface 183 v) xT 205 true).run Tryd.prog w = .ok (.tuple #[.nilIface, .bool false]) w := run_typeAssert_lacksB Tryd.underlying205 (by kernel_rfl) (by kernel_rfl) v xT w
theorem hasUnwrapsJ (v : Value) (xT : TypeId) (w : World) : (Instr.typeAssert (.iface 183 v) xT 206 true).run Tryd.prog w = .ok (.tuple #[.iface 183 v, .bool true]) w := run_typeAssert_hasB Tryd.underlying206 (by kernel_rfl) v xT w
theorem methodUnwrapJ (v : Value) (w : World) : (Go.method 366 183 v "Unwrap").run Tryd.prog w = .ok (177, v) w := by kernel_rfl
theorem unwrapJ_c (J K : Nat) (T : TypeId) (w : World) (h : w.heap[J]? = some (.cells #[.slice (some ⟨K, 0, none⟩) 2 2] T (0, 0))) :
    Calls Tryd.prog 177 #[.pointer (some ⟨J, 0, none⟩)] w fun e w' => e = .returned (.slice (some ⟨K, 0, none⟩) 2 2) ∧ w' = w := by
  have c1 : w.cell? ⟨J, 0, none⟩ = some (.slice (some ⟨K, 0, none⟩) 2 2) := blk_cell h rfl
  clear h
  go_enter Tryd.func177, Tryd.ntmps177
  go_wp2
  go_ret
  exact ⟨rfl, rfl⟩
set_option maxHeartbeats 4000000 in
theorem in_JE (J K b : Nat) (i : Int) (y : Value) (t a : Addr) (x old : Value) (w : World) (hJ : w.heap[J]? = some (.cells #[.slice (some ⟨K, 0, none⟩) 2 2] 185 (0, 0))) (hK : w.heap[K]? = some (.cells #[.iface 96 (.pointer (some ⟨b, 0, none⟩)), y] 42 (0, 0)))
    (hb : w.heap[b]? = some (.cells #[.int .i64 i, .int .i64 90] 30 (0, 0))) (ha : w.cell? a = some (.pointer (some t))) (ht : w.cell? t = some old) (hf : w.frozen? t = false) :
    Calls Tryd.prog 102 #[.iface 183 (.pointer (some ⟨J, 0, none⟩)), x, vE a, tE] w fun ev w' => ev = .returned (.bool true) ∧ w' = (((w.alloc (oE a)).alloc (oE a)).alloc (.cells #[.int .i64 90] 28)).setCell t (.int .i64 90) := by
  have hal := cell_lt ha
  have htl := cell_lt ht
  have HU := hide (unwrapJ_c J K _ (w.alloc (oE a)) (heap_old hJ _))
  have cK : (w.alloc (oE a)).cell? ⟨K, 0, none⟩ = some (.iface 96 (.pointer (some ⟨b, 0, none⟩))) := blk_cell (heap_old hK _) rfl
  have HI := hide (in_FE b i 90 _ _ t a x old (w.alloc (oE a)) (heap_old hb _) (by rw [World.cell?_alloc_lt _ _ a hal]; exact ha) (by rw [World.cell?_alloc_lt _ _ t htl]; exact ht) (by rw [World.frozen?_alloc_old _ _ t (Nat.ne_of_lt htl)]; exact hf))
  have x1 := xTypeOf
  have x2 := xAssg
  have y0 := typeOfJ
  have y2 := methodAssignableTo
  have z3 := asgJE
  have z4 := noAsJ
  have z5 := noUnwrapJ
  have z6 := hasUnwrapsJ
  have z7 := methodUnwrapJ
  clear ha ht hf hb hJ hK
  go_enter Tryd.func102, Tryd.ntmps102
  go_wp2
  refine wp_loop_rounds 1 ?_
  rw [rounds_succ]
  go_wp2_with fail
  refine HU.out.mono ?_
  rintro e w' ⟨rfl, rfl⟩
  go_wp2_with fail
  refine wp_loop_rounds 1 ?_
  rw [rounds_succ]
  go_wp2_with fail
  refine HI.out.mono ?_
  rintro e w' ⟨rfl, rfl⟩
  go_wp2
  go_ret
  exact ⟨rfl, rfl⟩
set_option maxHeartbeats 4000000 in
theorem in_JF (J K b : Nat) (y : Value) (t a : Addr) (x old : Value) (w : World) (hJ : w.heap[J]? = some (.cells #[.slice (some ⟨K, 0, none⟩) 2 2] 185 (0, 0))) (hK : w.heap[K]? = some (.cells #[.iface 96 (.pointer (some ⟨b, 0, none⟩)), y] 42 (0, 0)))
    (ha : w.cell? a = some (.pointer (some t))) (ht : w.cell? t = some old) (hf : w.frozen? t = false) :
    Calls Tryd.prog 102 #[.iface 183 (.pointer (some ⟨J, 0, none⟩)), x, vF a, tF] w fun ev w' => ev = .returned (.bool true) ∧ w' = (((w.alloc (oF a)).alloc (oF a)).alloc (.cells #[.pointer (some ⟨b, 0, none⟩)] 96)).setCell t (.pointer (some ⟨b, 0, none⟩)) := by
  have hal := cell_lt ha
  have htl := cell_lt ht
  have HU := hide (unwrapJ_c J K _ (w.alloc (oF a)) (heap_old hJ _))
  have cK : (w.alloc (oF a)).cell? ⟨K, 0, none⟩ = some (.iface 96 (.pointer (some ⟨b, 0, none⟩))) := blk_cell (heap_old hK _) rfl
  have HI := hide (in_FF ⟨b, 0, none⟩ t a x old (w.alloc (oF a)) (by rw [World.cell?_alloc_lt _ _ a hal]; exact ha) (by rw [World.cell?_alloc_lt _ _ t htl]; exact ht) (by rw [World.frozen?_alloc_old _ _ t (Nat.ne_of_lt htl)]; exact hf))
  have x1 := xTypeOf
  have x2 := xAssg
  have y0 := typeOfJ
  have y2 := methodAssignableTo
  have z3 := asgJF
  have z4 := noAsJ
  have z5 := noUnwrapJ
  have z6 := hasUnwrapsJ
  have z7 := methodUnwrapJ
  clear ha ht hf hJ hK
  go_enter Tryd.func102, Tryd.ntmps102
  go_wp2
  refine wp_loop_rounds 1 ?_
  rw [rounds_succ]
  go_wp2_with fail
  refine HU.out.mono ?_
  rintro e w' ⟨rfl, rfl⟩
  go_wp2_with fail
  refine wp_loop_rounds 1 ?_
  rw [rounds_succ]
  go_wp2_with fail
  refine HI.out.mono ?_
  rintro e w' ⟨rfl, rfl⟩
  go_wp2
  go_ret
  exact ⟨rfl, rfl⟩
set_option maxHeartbeats 4000000 in
theorem as_JE (J K b : Nat) (i : Int) (y : Value) (t : Addr) (old : Value) (w : World) (hJ : w.heap[J]? = some (.cells #[.slice (some ⟨K, 0, none⟩) 2 2] 185 (0, 0))) (hK : w.heap[K]? = some (.cells #[.iface 96 (.pointer (some ⟨b, 0, none⟩)), y] 42 (0, 0)))
    (hb : w.heap[b]? = some (.cells #[.int .i64 i, .int .i64 90] 30 (0, 0))) (he : Et w) (ht : w.cell? t = some old) (hf : w.frozen? t = false) :
    Calls Tryd.prog 70 #[.iface 183 (.pointer (some ⟨J, 0, none⟩)), .iface 138 (.pointer (some t))] w (Hit w t (.int .i64 90)) := by
  have htl := cell_lt ht
  have hel : 0 < w.heap.size := cell_lt he
  have x1 := xValueOf
  have x2 := xType
  have x3 := xKind
  have x4 := xIsNil
  have x5 := xElem
  have x6 := xImpl
  have y1 := valueOfE t
  have y2 := typeE
  have y3 := methodKind
  have y4 := kindPE
  have y5 := isNilE ⟨w.heap.size, 0, none⟩ t ((w.alloc (.cells #[.pointer (some t)] 138)).alloc (oE ⟨w.heap.size, 0, none⟩)) (by simp)
  have y6 := methodElem
  have y7 := elemE
  have y8 := kindE
  have y9 := methodImplements
  have y10 := implE
  have hg2 : ((w.alloc (.cells #[.pointer (some t)] 138)).alloc (oE ⟨w.heap.size, 0, none⟩)).cell? ⟨0, 0, none⟩ = some (.iface 200 (.agg #[.pointer (some ⟨4, 42, none⟩)])) := by
    rw [World.cell?_alloc_lt _ _ ⟨0, 0, none⟩ (by simp <;> omega), World.cell?_alloc_lt _ _ ⟨0, 0, none⟩ hel]; exact he
  have HI := hide (in_JE J K b i y t ⟨w.heap.size, 0, none⟩ (.iface 138 (.pointer (some t))) old ((w.alloc (.cells #[.pointer (some t)] 138)).alloc (oE ⟨w.heap.size, 0, none⟩)) (heap_old (heap_old hJ _) _) (heap_old (heap_old hK _) _) (heap_old (heap_old hb _) _) (by simp)
    (by rw [World.cell?_alloc_lt _ _ t (by simp; omega), World.cell?_alloc_lt _ _ t htl]; exact ht) (by rw [World.frozen?_alloc_old _ _ t (by simp; omega), World.frozen?_alloc_old _ _ t (Nat.ne_of_lt htl)]; exact hf))
  clear ht hf he hb hJ hK
  go_enter Tryd.func70, Tryd.ntmps70
  go_wp2_with fail
  refine HI.out.mono ?_
  rintro e w' ⟨rfl, rfl⟩
  go_wp2
  go_ret
  exact ⟨rfl, _, (((((Below.refl _ w).alloc (Nat.le_refl _) _).alloc (by simp) _).alloc (by simp; omega) _).alloc (by simp; omega) _).alloc (by simp; omega) _, rfl⟩
set_option maxHeartbeats 4000000 in
theorem as_JF (J K b : Nat) (y : Value) (t : Addr) (old : Value) (w : World) (hJ : w.heap[J]? = some (.cells #[.slice (some ⟨K, 0, none⟩) 2 2] 185 (0, 0))) (hK : w.heap[K]? = some (.cells #[.iface 96 (.pointer (some ⟨b, 0, none⟩)), y] 42 (0, 0)))
    (he : Et w) (ht : w.cell? t = some old) (hf : w.frozen? t = false) :
    Calls Tryd.prog 70 #[.iface 183 (.pointer (some ⟨J, 0, none⟩)), .iface 139 (.pointer (some t))] w (Hit w t (.pointer (some ⟨b, 0, none⟩))) := by
  have htl := cell_lt ht
  have hel : 0 < w.heap.size := cell_lt he
  have x1 := xValueOf
  have x2 := xType
  have x3 := xKind
  have x4 := xIsNil
  have x5 := xElem
  have x6 := xImpl
  have y1 := valueOfF t
  have y2 := typeF
  have y3 := methodKind
  have y4 := kindPF
  have y5 := isNilF ⟨w.heap.size, 0, none⟩ t ((w.alloc (.cells #[.pointer (some t)] 139)).alloc (oF ⟨w.heap.size, 0, none⟩)) (by simp)
  have y6 := methodElem
  have y7 := elemF
  have y8 := kindF
  have y9 := methodImplements
  have y10 := implF
  have hg2 : ((w.alloc (.cells #[.pointer (some t)] 139)).alloc (oF ⟨w.heap.size, 0, none⟩)).cell? ⟨0, 0, none⟩ = some (.iface 200 (.agg #[.pointer (some ⟨4, 42, none⟩)])) := by
    rw [World.cell?_alloc_lt _ _ ⟨0, 0, none⟩ (by simp <;> omega), World.cell?_alloc_lt _ _ ⟨0, 0, none⟩ hel]; exact he
  have HI := hide (in_JF J K b y t ⟨w.heap.size, 0, none⟩ (.iface 139 (.pointer (some t))) old ((w.alloc (.cells #[.pointer (some t)] 139)).alloc (oF ⟨w.heap.size, 0, none⟩)) (heap_old (heap_old hJ _) _) (heap_old (heap_old hK _) _) (by simp)
    (by rw [World.cell?_alloc_lt _ _ t (by simp; omega), World.cell?_alloc_lt _ _ t htl]; exact ht) (by rw [World.frozen?_alloc_old _ _ t (by simp; omega), World.frozen?_alloc_old _ _ t (Nat.ne_of_lt htl)]; exact hf))
  clear ht hf he hJ hK
  go_enter Tryd.func70, Tryd.ntmps70
  go_wp2_with fail
  refine HI.out.mono ?_
  rintro e w' ⟨rfl, rfl⟩
  go_wp2
  go_ret
  exact ⟨rfl, _, (((((Below.refl _ w).alloc (Nat.le_refl _) _).alloc (by simp) _).alloc (by simp; omega) _).alloc (by simp; omega) _).alloc (by simp; omega) _, rfl⟩
theorem join_below {w w' : World} {v : Value} {i : Int} (h : IsJoin w v i) (hb : Below w.heap.size w w') : IsJoin w' v i := by
  obtain ⟨J, K, b, y, h1, h2, h3, h4⟩ := h
  exact ⟨J, K, b, y, h1, below_blk hb (heap_lt h2) h2, below_blk hb (heap_lt h3) h3, below_blk hb (heap_lt h4) h4⟩
theorem number_j (v : Value) (i : Int) (w : World) (h : IsJoin w v i) (he : Et w) : Calls Tryd.prog 16 #[v] w (RetB w (.int .i64 90)) := by
  have HF : Hid (Calls Tryd.prog 39 #[v] w (FoundPost w (.int .i64 90) true)) := hide (found_E _ 90 true w (fun h => by cases h) fun t old u hbu ht hf => by
    obtain ⟨J, K, b, y, rfl, h2, h3, h4⟩ := join_below h hbu
    exact (as_JE J K b i y t old u h2 h3 h4 (he.below hbu (Nat.le_refl _)) ht hf).mono fun e u' hm => Hit.as hm)
  clear h he
  go_enter Tryd.func16, Tryd.ntmps16
  go_wp2_with fail
  refine HF.out.mono ?_
  rintro e w' ⟨rfl, hb⟩
  go_wp2
  go_ret
  exact ⟨rfl, hb⟩
theorem place_j (v : Value) (i : Int) (w : World) (h : IsJoin w v i) (he : Et w) : Calls Tryd.prog 17 #[v] w (RetB w (.int .i64 i)) := by
  obtain ⟨J, K, b, y, rfl, h2, h3, h4⟩ := h
  have HB := hide h4
  have HF : Hid (Calls Tryd.prog 40 #[.iface 183 (.pointer (some ⟨J, 0, none⟩))] w (FoundPost w (.pointer (some ⟨b, 0, none⟩)) true)) := hide (found_F _ _ true w (fun h => by cases h) fun t old u hbu ht hf =>
    (as_JF J K b y t old u (below_blk hbu (heap_lt h2) h2) (below_blk hbu (heap_lt h3) h3) (he.below hbu (Nat.le_refl _)) ht hf).mono fun e u' hm => Hit.as hm)
  clear h2 h3 h4 he
  go_enter Tryd.func17, Tryd.ntmps17
  go_wp2_with fail
  refine HF.out.mono ?_
  rintro e w' ⟨rfl, hb⟩
  have c0 : w'.cell? ⟨b, 0, none⟩ = some (.int .i64 i) := blk_cell (below_blk hb (heap_lt HB.out) HB.out) rfl
  go_wp2
  go_ret
  exact ⟨rfl, hb⟩
end Go.Proofs.YtlhjkacdhfchiaaDoor.Pk
/- LockPlays: what is asked and released on both sides. -/
namespace Go.Proofs.YtlhjkacdhfchiaaDoor.Ng
set_option linter.unusedVariables false
set_option linter.unusedSimpArgs false
set_option maxRecDepth 100000
open Go.ChangeShapes Go.WideShapes Go.ChangeAt Go.RowKit
open Go.Proofs.YtlhjkacdhfchiaaDoor.Wu Go.Proofs.YtlhjkacdhfchiaaDoor.Rk Go.Proofs.YtlhjkacdhfchiaaDoor.Pm Go.Proofs.YtlhjkacdhfchiaaDoor.Pd Go.Proofs.YtlhjkacdhfchiaaDoor.Ps Go.Proofs.YtlhjkacdhfchiaaDoor.Pu Go.Proofs.YtlhjkacdhfchiaaDoor.Pv Go.Proofs.YtlhjkacdhfchiaaDoor.Px Go.Proofs.YtlhjkacdhfchiaaDoor.Pk Go.Proofs.YtlhjkacdhfchiaaDoor.La Go.Proofs.YtlhjkacdhfchiaaDoor.Lb Go.Proofs.YtlhjkacdhfchiaaDoor.Lc Go.Proofs.YtlhjkacdhfchiaaDoor.Le Go.Proofs.YtlhjkacdhfchiaaDoor.Lg Go.Proofs.YtlhjkacdhfchiaaDoor.Lh Go.Proofs.YtlhjkacdhfchiaaDoor.Li Go.Proofs.YtlhjkacdhfchiaaDoor.Lk Go.Proofs.YtlhjkacdhfchiaaDoor.Lm Go.Proofs.YtlhjkacdhfchiaaDoor.Lo Go.Proofs.YtlhjkacdhfchiaaDoor.Lr Go.Proofs.YtlhjkacdhfchiaaDoor.Lu Go.Proofs.YtlhjkacdhfchiaaDoor.Lx Go.Proofs.YtlhjkacdhfchiaaDoor.Na Go.Proofs.YtlhjkacdhfchiaaDoor.Nb Go.Proofs.YtlhjkacdhfchiaaDoor.Nc Go.Proofs.YtlhjkacdhfchiaaDoor.Nd Go.Proofs.YtlhjkacdhfchiaaDoor.Nf
open Go.Proofs.YtlhjkacdhfchiaaDoor.Er (Et)
open Go.Proofs.YtlhjkacdhfchiaaDoor.Eu (IsErr number_c RetB)
theorem err_num {w : World} {v : Value} {c : Int} (h : ErrV w v c) (he : Et w) : Calls Tryd.prog 16 #[v] w (RetB w (.int .i64 c)) := by
  rcases h with rfl | ⟨i, h, rfl⟩ | ⟨i, b, rfl, hb⟩
  · exact number_c _ c (-1) w (.inr (.inl ⟨rfl, rfl⟩)) he
  · exact number_j v i w h he
  · exact number_c _ c i w (.inr (.inr ⟨b, _, _, rfl, hb⟩)) he
theorem nil_num {w : World} (he : Et w) : Calls Tryd.prog 16 #[.nilIface] w (RetB w (.int .i64 0)) := number_c _ 0 (-1) w (.inl ⟨rfl, rfl, rfl⟩) he
/-- Both sides, of the law's own. -/
structure PS (w0 : World) (N : Nat) (v : Value) (L : List Wh) (w : World) : Prop where
  lw : Lw w0 N N L w
  rk : RkW w N v L
  once : Once L
  few : L.length ≤ 64
theorem PS.up {w0 w w' : World} {N : Nat} {v : Value} {L : List Wh} (h : PS w0 N v L w) (hb : Below w.heap.size w w') : PS w0 N v L w' := ⟨h.lw.up hb, RkW.below h.rk hb, h.once, h.few⟩
theorem PS.bo {w0 w : World} {N : Nat} {v : Value} {L : List Wh} (h : PS w0 N v L w) : Bo w0 N N v L w := ⟨h.lw.lk, h.rk, h.lw.below⟩
theorem RkW.kp {w w' : World} {N : Nat} {v : Value} {L : List Wh} (h : RkW w N v L) (hk : Kp w w') : RkW w' N v L := by
  obtain ⟨us, h⟩ := h
  exact ⟨us, h.kp hk⟩
theorem once_put {L L' : List Wh} {who : Int} {l : List (List UInt8)} {b : Bool} (ho : Once L) (h : askF L who l = .inl (L', b)) : Once L' := by
  obtain ⟨hf, S, hS, rfl⟩ := askF_inl h
  rw [List.findIdx?_eq_none_iff] at hf
  unfold Once
  rw [List.pairwise_append]
  refine ⟨ho, List.pairwise_singleton _ _, fun x hx y hy e => ?_⟩
  rw [List.mem_singleton.1 hy] at e
  have := hf x hx
  simp [whoIs] at this
  exact this e
theorem put_free {L L' : List Wh} {who : Int} {l : List (List UInt8)} {b : Bool} (h : askF L who l = .inl (L', b)) : b = freeL L' L.length ∧ L'.length = L.length + 1 := by
  unfold askF at h
  split at h
  · cases h
  split at h
  · cases h
  split at h
  · cases h
  split at h
  · injection h with h
    injection h with h1 h2
    subst h1
    exact ⟨h2.symm, by simp⟩
  · cases h
  · cases h
/-- Release on the program's side, with all that it keeps. -/
theorem rel_k {w0 w : World} {N P : Nat} {L : List Wh} (h : Lw w0 N P L w) (who : Int) :
    Calls Tryd.prog 25 #[.pointer (some ⟨P, 0, none⟩), .int .i64 who] w fun e w' => match L.findIdx? (whoIs who) with
      | some i => ∃ v x, L[i]? = some x ∧ e = .returned (.tuple #[v, .int .i64 0]) ∧ OwnN w' w.heap.size v (nx (cut L i) x.2 i (L.length - 1 - i)) ∧ Lw w0 N P (cut L i) w' ∧ Kp w w' ∧ w.heap.size ≤ w'.heap.size
      | none => e = .returned (.tuple #[.slice none 0 0, .int .i64 4]) ∧ Below w.heap.size w w' := by
  refine (release_c h.lk who h.size).mono ?_
  intro e w' hr
  unfold RelR at hr
  cases hf : L.findIdx? (whoIs who) with
  | some i =>
    rw [hf] at hr
    obtain ⟨v, y, h1, h2, h3, h4, h5, h6⟩ := hr
    exact ⟨v, y, h1, h2, h3, h.next h4 h6, h5, h6.size⟩
  | none =>
    rw [hf] at hr
    exact hr
theorem once_cut {L : List Wh} (ho : Once L) (i : Nat) : Once (cut L i) := by
  refine ho.sublist ?_
  unfold cut
  conv => rhs; rw [← List.take_append_drop i L]
  exact List.Sublist.append (List.Sublist.refl _) (by rw [show L.drop (i + 1) = (L.drop i).drop 1 by rw [List.drop_drop]]; exact List.drop_sublist _ _)
end Go.Proofs.YtlhjkacdhfchiaaDoor.Ng
/- LockPlays' walk. -/
namespace Go.Proofs.YtlhjkacdhfchiaaDoor.LockPlaysW
set_option linter.unusedVariables false
set_option linter.unusedSimpArgs false
set_option maxRecDepth 100000
open Go.ChangeShapes Go.WideShapes Go.ChangeAt Go.RowKit
open Go.Proofs.YtlhjkacdhfchiaaDoor.Wu Go.Proofs.YtlhjkacdhfchiaaDoor.Rk Go.Proofs.YtlhjkacdhfchiaaDoor.Pm Go.Proofs.YtlhjkacdhfchiaaDoor.Pd Go.Proofs.YtlhjkacdhfchiaaDoor.Ps Go.Proofs.YtlhjkacdhfchiaaDoor.Pu Go.Proofs.YtlhjkacdhfchiaaDoor.Pv Go.Proofs.YtlhjkacdhfchiaaDoor.Px Go.Proofs.YtlhjkacdhfchiaaDoor.Pk Go.Proofs.YtlhjkacdhfchiaaDoor.La Go.Proofs.YtlhjkacdhfchiaaDoor.Lb Go.Proofs.YtlhjkacdhfchiaaDoor.Lc Go.Proofs.YtlhjkacdhfchiaaDoor.Le Go.Proofs.YtlhjkacdhfchiaaDoor.Lg Go.Proofs.YtlhjkacdhfchiaaDoor.Lh Go.Proofs.YtlhjkacdhfchiaaDoor.Li Go.Proofs.YtlhjkacdhfchiaaDoor.Lk Go.Proofs.YtlhjkacdhfchiaaDoor.Lm Go.Proofs.YtlhjkacdhfchiaaDoor.Lo Go.Proofs.YtlhjkacdhfchiaaDoor.Lr Go.Proofs.YtlhjkacdhfchiaaDoor.Lt Go.Proofs.YtlhjkacdhfchiaaDoor.Lu Go.Proofs.YtlhjkacdhfchiaaDoor.Lv Go.Proofs.YtlhjkacdhfchiaaDoor.Lx Go.Proofs.YtlhjkacdhfchiaaDoor.Lz Go.Proofs.YtlhjkacdhfchiaaDoor.Na Go.Proofs.YtlhjkacdhfchiaaDoor.Nb Go.Proofs.YtlhjkacdhfchiaaDoor.Nc Go.Proofs.YtlhjkacdhfchiaaDoor.Nd Go.Proofs.YtlhjkacdhfchiaaDoor.Nf Go.Proofs.YtlhjkacdhfchiaaDoor.Ng
open Go.Proofs.YtlhjkacdhfchiaaDoor.Ba (of_hid)
open Go.Proofs.YtlhjkacdhfchiaaDoor.Er (Et)
open Go.Proofs.YtlhjkacdhfchiaaDoor.Eu (RetB)
attribute [local go_sem] kUpon_value kUpon_skip kUpon_enter
set_option maxHeartbeats 12800000 in
theorem walk (a : Option Addr) (m c : Nat) (l : List OpL) (s : ByteArray) (ask : List UInt8) (hs : s = bs ask) (w : World) (hl : l.length = m) (hmc : m ≤ 9223372036854775807) (g off : Nat) (ha : 0 < m → a = some ⟨g, off, none⟩)
    (hcell : ∀ i o, l[i]? = some o → (∀ j u, (opC o)[j]? = some u → w.cell? ⟨g, off + i * 3 + j, none⟩ = some u) ∧ OkL w o) (he : Et w) :
    Calls Tryd.prog 4 #[.slice a m c, .string s] w fun e w' => e = .returned (.bool true) ∧ Below w.heap.size w w' := by
  have HE := hide (fun (u : World) (hu : Below w.heap.size w u) => he.below hu (Nat.le_refl _))
  have HAsk := hide hs
  have HH := hide (locks_c w)
  have HF := hide (fun (u : World) (hu : Below w.heap.size w u) => fits_c a m c l u hl hmc g off ha (fun i o hi => ⟨fun j x hx => keepC hu (Nat.le_refl _) ((hcell i o hi).1 j x hx), (hcell i o hi).2.below hu⟩))
  have HC := hide hcell
  have Hl := hide hl
  clear hcell hl he hs
  go_enter Tryd.func4, Tryd.ntmps4
  go_wp2_with fail
  refine HH.out.mono ?_
  rintro e w1 ⟨rfl, hb⟩
  have HB := hide hb
  clear hb HH
  go_wp2_with fail
  refine (HF.out w1 HB.out).mono ?_
  rintro e w2 ⟨b, rfl, hfit, hb⟩
  have HB2 := hide (keepB hb (Nat.le_refl _) HB.out)
  clear hb HF HB
  cases b with
  | false =>
    go_wp2
    go_ret
    exact ⟨rfl, HB2.out⟩
  | true =>
    obtain ⟨h90, hsm⟩ := hfit rfl
    have HSm := hide hsm
    clear hfit hsm
    by_cases h100 : 100 < s.size
    · have d1 : decide ((100 : Int) < (s.size : Int)) = true := decide_eq_true (by omega)
      have d2 : decide (100 < s.size) = true := decide_eq_true h100
      go_wp2
      go_ret
      exact ⟨rfl, HB2.out⟩
    · have d1 : decide ((100 : Int) < (s.size : Int)) = false := decide_eq_false (by omega)
      have d2 : decide (100 < s.size) = false := decide_eq_false h100
      have HN := hide (new_w (Below.refl w2.heap.size w2))
      clear h100
      go_wp2_with fail
      refine HN.out.mono ?_
      rintro e w3 ⟨rfl, h3⟩
      have HS3 : Hid (PS w2 w2.heap.size (.slice none 0 0) [] w3) := hide ⟨h3, RkW.nil _ _, List.Pairwise.nil, by simp⟩
      clear h3 HN d1 d2
      go_wp2_with fail
      go_loopw [6, 32] (fun v j wr => ∃ (i : Nat) (L : List Wh), j = .int .i64 (i : Int) ∧ i ≤ m ∧ PS w2 w2.heap.size v L wr) (fun _ j _ => m - (intOf j).toNat)
      case atStart => exact ⟨0, [], rfl, Nat.zero_le _, HS3.out⟩
      case round =>
        clear HS3
        obtain ⟨i, L, rfl, hi, hS⟩ := hrel
        obtain ⟨us0, hA0⟩ := hS.rk
        obtain ⟨av, cv, hv, -, -, -⟩ := hA0.own.is
        subst hv
        obtain ⟨n, hn⟩ : ∃ n, n = us0.length := ⟨_, rfl⟩
        rw [← hn] at hS ⊢
        have HS := hide hS
        clear hS hA0 hn
        by_cases hlt : i < m
        · have d1 : decide ((i : Int) < (m : Int)) = true := by simpa using hlt
          have i1 : (0 : Int) ≤ (i : Int) := by omega
          have i2 : (i : Int) < (m : Int) := by omega
          have hex : ∃ o, l[i]? = some o := ⟨l[i]'(by rw [Hl.out]; exact hlt), List.getElem?_eq_getElem (by rw [Hl.out]; exact hlt)⟩
          obtain ⟨o, hio⟩ := hex
          have hsmall := HSm.out o (List.mem_of_getElem? hio)
          obtain ⟨hoc, hok⟩ := HC.out i _ hio
          obtain rfl := ha (by omega)
          have hbw := HB2.out.trans (HS.out.lw.below.mono HB2.out.size)
          have o0 := keepC hbw (Nat.le_refl _) (hoc 0 _ rfl)
          have o1 := keepC hbw (Nat.le_refl _) (hoc 1 _ rfl)
          have o2 := keepC hbw (Nat.le_refl _) (hoc 2 _ rfl)
          rw [Nat.add_zero] at o0
          have HOk := hide hok
          have Hsmall := hide hsmall
          clear hoc hok hio hsmall hbw
          obtain ⟨kd, who, oa, om, oc, T⟩ := o
          simp only at o0 o1 o2
          have HS5 := hide (HS.out.up (below_new wr (.cells #[.int .i64 kd, .int .i64 who, .slice oa om oc] 54)))
          have HO5 := hide (heap_last wr (.cells #[.int .i64 kd, .int .i64 who, .slice oa om oc] 54))
          clear HS
          have hTl : T.length = om := HOk.out.len
          have HTl := hide hTl
          clear hTl
          cases hk0 : (kd == 0) with
          | true =>
            have HPut := hide (fun (u : World) (hu : PS w2 w2.heap.size (.slice av n cv) L u) (hsr : SrcS u oa T) => rput_c hu.rk hu.lw.size who oa oc T hsr (by rw [HTl.out]; exact HOk.out.cap) HOk.out.max (fun p hp => Nat.le_trans (Hsmall.out.2 p hp) (by omega)))
            have HAk := hide (fun (u : World) (hu : Lw w2 w2.heap.size w2.heap.size L u) (hsr : SrcS u oa T) => ask_c hu.lk who oa oc T hsr (by rw [HTl.out]; exact HOk.out.cap) HOk.out.max HOk.out.txt hu.size)
            rw [HTl.out] at HPut HAk
            have HSrc : Hid (∀ u, Below w2.heap.size w2 u → SrcS u oa T) := hide (fun u hu => HOk.out.src.below (HB2.out.trans (hu.mono HB2.out.size)))
            go_wp2_with fail
            generalize wr.alloc (.cells #[.int .i64 kd, .int .i64 who, .slice oa om oc] 54) = w5 at *
            generalize wr.heap.size = Bo at *
            clear o0 o1 o2
            have HP5 := hide (HPut.out w5 HS5.out (HSrc.out _ HS5.out.lw.below))
            have hPutR := HP5.out
            cases hr : askF L who T with
            | inl t =>
              obtain ⟨L', b⟩ := t
              rw [hr] at hPutR
              have HPu := hide hPutR
              have Honce := hide (once_put HS5.out.once hr)
              have Hfree := hide (put_free hr)
              have HAk2 := hide (fun (u : World) (hu : Lw w2 w2.heap.size w2.heap.size L u) (hsr : SrcS u oa T) => ask_k hu who oa om oc T hsr HOk.out.len HOk.out.cap HOk.out.max HOk.out.txt hr)
              clear hPutR hr HAk HPut HP5
              refine HPu.out.mono ?_
              rintro e w6 ⟨⟨v6, rfl, hrk⟩, hb⟩
              obtain ⟨us6, hA6⟩ := hrk
              obtain ⟨av6, cv6, hv6, -, -, -⟩ := hA6.own.is
              subst hv6
              have hlen6 : us6.length = L.length + 1 := by rw [hA6.len]; exact Hfree.out.2
              rw [hlen6] at hA6 ⊢
              have hfew6 := hA6.few
              have hrk6 : RkW w6 w2.heap.size (.slice av6 (L.length + 1) cv6) L' := ⟨us6, hA6⟩
              have HR6 := hide hrk6
              have HF6 := hide hfew6
              have HL6 := hide (HS5.out.lw.up hb)
              have HO6 := hide (below_blk hb (heap_lt HO5.out) HO5.out)
              obtain ⟨n0, hn0⟩ : ∃ n0, n0 = L.length := ⟨_, rfl⟩
              have Hn0 := hide hn0
              have hn64 : n0 ≤ 64 := by rw [hn0]; exact HS5.out.few
              rw [← hn0] at HR6 ⊢
              have q1 := blk_cell (i := 1) HO6.out rfl
              have q2 := blk_cell (i := 2) HO6.out rfl
              clear hb hA6 hlen6 hrk6 hfew6 hn0 HPu HS5 HO5
              go_wp2_with fail
              refine (HAk2.out w6 HL6.out (HSrc.out _ HL6.out.below)).mono ?_
              rintro e w7 ⟨rfl, h7, hk7⟩
              have HS7 : Hid (PS w2 w2.heap.size (.slice av6 (n0 + 1) cv6) L' w7) := hide ⟨h7, RkW.kp HR6.out hk7, Honce.out, HF6.out⟩
              have HNu := hide (nil_num (HE.out w7 (HB2.out.trans (h7.below.mono HB2.out.size))))
              clear h7 hk7 HL6 HR6 HO6 q1 q2 HAk2
              go_wp2_with fail
              refine HNu.out.mono ?_
              rintro e w8 ⟨rfl, hb⟩
              have HS8 := hide (HS7.out.up hb)
              have HHs := hide (rhas_l HS8.out.rk (i := n0) (by rw [Hfree.out.2, Hn0.out]; omega))
              rw [Hn0.out, ← Hfree.out.1, ← Hn0.out] at HHs
              have hwx : IntKind.i64.wrap (n0 : Int) = (n0 : Int) := IntWalk.i64_in _ (by omega)
              have hwx2 : IntKind.i64.wrap ((n0 : Int) + 1 - 1) = (n0 : Int) := by rw [Int.add_sub_cancel]; exact hwx
              have hbb : (b != b) = false := by simp
              clear hb HNu HS7
              go_wp2_with fail
              refine HHs.out.mono ?_
              rintro e w9 ⟨rfl, hb⟩
              have HS9 := hide (HS8.out.up hb)
              have HLk := hide (like_c HS9.out.bo HS9.out.once HS9.out.few ask)
              rw [← HAsk.out] at HLk
              clear hb HHs HS8
              go_wp2_with fail
              refine HLk.out.mono ?_
              rintro e w10 ⟨rfl, hb⟩
              have HS10 := hide (HS9.out.up hb)
              clear hb HLk HS9
              go_wp2
              go_roundw
              case rel => exact ⟨i + 1, L', by go_num, by omega, HS10.out⟩
              case measure => simp [intOf]; omega
            | inr cE =>
              rw [hr] at hPutR
              have HPu := hide hPutR
              have HAk2 := hide (fun (u : World) (hu : Lw w2 w2.heap.size w2.heap.size L u) (hsr : SrcS u oa T) => by
                have := HAk.out u hu hsr
                rw [hr] at this
                exact this)
              clear hPutR hr HAk HPut HP5
              refine HPu.out.mono ?_
              rintro e w6 ⟨⟨rfl, hcE⟩, hb⟩
              have HS6 := hide (HS5.out.up hb)
              have HO6 := hide (below_blk hb (heap_lt HO5.out) HO5.out)
              have q1 := blk_cell (i := 1) HO6.out rfl
              have q2 := blk_cell (i := 2) HO6.out rfl
              have n1 : (cE != 0) = true := by simpa using hcE
              have n2 : (cE == 0) = false := by simpa using hcE
              have n3 : (cE != cE) = false := by simp
              clear hb HPu HS5 HO5 hcE
              go_wp2_with fail
              refine (HAk2.out w6 HS6.out.lw (HSrc.out _ HS6.out.lw.below)).mono ?_
              rintro e w7 ⟨v, rfl, hv, hb⟩
              have HS7 := hide (HS6.out.up hb)
              have HNu := hide (err_num hv (HE.out w7 (HB2.out.trans (HS7.out.lw.below.mono HB2.out.size))))
              obtain ⟨Ty, x, rfl⟩ := errv_shape hv
              clear hb hv HS6 HO6 q1 q2 HAk2
              go_wp2_with fail
              refine HNu.out.mono ?_
              rintro e w8 ⟨rfl, hb⟩
              have HS8 := hide (HS7.out.up hb)
              have HLk := hide (like_c HS8.out.bo HS8.out.once HS8.out.few ask)
              rw [← HAsk.out] at HLk
              clear hb HNu HS7
              go_wp2_with fail
              refine HLk.out.mono ?_
              rintro e w10 ⟨rfl, hb⟩
              have HS10 := hide (HS8.out.up hb)
              clear hb HLk HS8
              go_wp2
              go_roundw
              case rel => exact ⟨i + 1, L, by go_num, by omega, HS10.out⟩
              case measure => simp [intOf]; omega
          | false =>
            go_wp2_with fail
            generalize wr.alloc (.cells #[.int .i64 kd, .int .i64 who, .slice oa om oc] 54) = w5 at *
            generalize wr.heap.size = Bo at *
            clear o0 o1 o2
            have hRel := rrel_c HS5.out.rk HS5.out.lw.size HS5.out.once who
            have hRk := fun (u : World) (hu : Lw w2 w2.heap.size w2.heap.size L u) => Ng.rel_k hu who
            cases hf : L.findIdx? (whoIs who) with
            | none =>
              unfold RRelR at hRel
              rw [hf] at hRel hRk
              have HRel := hide hRel
              have HRk := hide hRk
              clear hRel hRk hf
              refine HRel.out.mono ?_
              rintro e w6 ⟨rfl, hb⟩
              have HS6 := hide (HS5.out.up hb)
              have HO6 := hide (below_blk hb (heap_lt HO5.out) HO5.out)
              have q1 := blk_cell (i := 1) HO6.out rfl
              clear hb HRel HS5 HO5
              go_wp2_with fail
              refine (HRk.out w6 HS6.out.lw).mono ?_
              rintro e w7 ⟨rfl, hb⟩
              have HS7 := hide (HS6.out.up hb)
              have HLk := hide (like_c HS7.out.bo HS7.out.once HS7.out.few ask)
              rw [← HAsk.out] at HLk
              clear hb HS6 HO6 q1 HRk
              go_wp2_with fail
              go_loopw [110] (fun j wq => j = .int .i64 0 ∧ wq = w7) (fun _ _ => 0)
              case atStart => exact ⟨rfl, rfl⟩
              case round =>
                obtain ⟨rfl, rfl⟩ := hrel
                go_wp2_with fail
                refine HLk.out.mono ?_
                rintro e w10 ⟨rfl, hb⟩
                have HS10 := hide (HS7.out.up hb)
                clear hb HLk HS7
                go_wp2
                go_roundw
                case rel => exact ⟨i + 1, L, by go_num, by omega, HS10.out⟩
                case measure => simp [intOf]; omega
            | some ix =>
              unfold RRelR at hRel
              rw [hf] at hRel hRk
              have HRel := hide hRel
              have HRk := hide hRk
              clear hRel hRk hf
              refine HRel.out.mono ?_
              rintro e w6 ⟨⟨v6, n6, x, hx, rfl, hrk, hon⟩, hb⟩
              obtain ⟨us6, hA6⟩ := hrk
              obtain ⟨av6, cv6, hv6, -, -, -⟩ := hA6.own.is
              subst hv6
              have hfew6 := hA6.few
              obtain ⟨n0, hn0⟩ : ∃ n0, n0 = us6.length := ⟨_, rfl⟩
              have hrk6 : RkW w6 w2.heap.size (.slice av6 us6.length cv6) (cut L ix) := ⟨us6, hA6⟩
              rw [← hn0] at hrk6 ⊢
              have HR6 := hide hrk6
              have HF6 := hide hfew6
              have HL6 := hide (HS5.out.lw.up hb)
              have HOn := hide (once_cut HS5.out.once ix)
              have hzl := nx_len (cut L ix) x.2 ix (L.length - 1 - ix)
              have hLf := HS5.out.few
              obtain ⟨zs, hzs⟩ : ∃ zs, zs = nx (cut L ix) x.2 ix (L.length - 1 - ix) := ⟨_, rfl⟩
              rw [← hzs] at hon hzl
              have Hzs := hide hzs
              have Hx := hide hx
              have hzb : zs.length ≤ 64 := by omega
              obtain ⟨a6, c6, g6, hn6, -, -, -, -⟩ := hon.form
              subst hn6
              have HO6 := hide (below_blk hb (heap_lt HO5.out) HO5.out)
              have HN6 := hide hon
              have q1 := blk_cell (i := 1) HO6.out rfl
              clear hb HRel HS5 HO5 hA6 hfew6 hrk6 hon hzs hx hn0 hzl hLf
              go_wp2_with fail
              refine (HRk.out w6 HL6.out).mono ?_
              rintro e w7 ⟨v7, x2, hx2, rfl, hon7, h7, hk7, hsz7⟩
              have hxe : x2 = x := by
                have := Hx.out
                rw [hx2] at this
                injection this
              subst hxe
              rw [← Hzs.out] at hon7
              obtain ⟨a7, c7, g7, hn7, -, -, ha7, hc7⟩ := hon7.form
              subst hn7
              have HS7 : Hid (PS w2 w2.heap.size (.slice av6 n0 cv6) (cut L ix) w7) := hide ⟨h7, RkW.kp HR6.out hk7, HOn.out, HF6.out⟩
              have hon6 := kp_own HN6.out hk7
              obtain ⟨a8, c8, g8, hn8, -, -, ha8, hc8⟩ := hon6.form
              injection hn8 with x1 x2' x3
              subst x1 x3
              have HA7 := hide ha7
              have HC7 := hide hc7
              have HA8 := hide ha8
              have HC8 := hide hc8
              clear h7 hk7 hsz7 hon7 hon6 hx2 ha7 hc7 ha8 hc8 x2' HL6 HO6 HR6 HN6 q1 HRk
              go_wp2_with fail
              go_loopw [110] (fun j wq => ∃ q : Nat, j = .int .i64 (q : Int) ∧ q ≤ zs.length ∧ PS w2 w2.heap.size (.slice av6 n0 cv6) (cut L ix) wq ∧ Below w7.heap.size w7 wq) (fun j _ => zs.length - (intOf j).toNat)
              case atStart => exact ⟨0, rfl, Nat.zero_le _, HS7.out, Below.refl _ _⟩
              case round =>
                clear HS7
                obtain ⟨q, rfl, hq, hS7, hB7⟩ := hrel
                have HS7 := hide hS7
                have HB7 := hide hB7
                clear hS7 hB7
                by_cases hlq : q < zs.length
                · have d3 : decide ((q : Int) < (zs.length : Int)) = true := by simpa using hlq
                  have j1 : (0 : Int) ≤ (q : Int) := by omega
                  have j2 : (q : Int) < (zs.length : Int) := by omega
                  have hex : ∃ z, zs[q]? = some z := ⟨zs[q], List.getElem?_eq_getElem hlq⟩
                  obtain ⟨z, hz⟩ := hex
                  have ea7 := HA7.out (by omega)
                  have ea8 := HA8.out (by omega)
                  subst ea7 ea8
                  have HCz := hide (fun (u : World) (hu : Below w7.heap.size w7 u) => (⟨keepC hu (Nat.le_refl _) (HC7.out q z hz), keepC hu (Nat.le_refl _) (HC8.out q z hz)⟩ : _ ∧ _))
                  have nz : (z != z) = false := by simp
                  clear hz
                  go_wp2_with fail
                  refine wp_region_keep (fun u => Below wr.heap.size wr u) (by kernel_rfl) (by kernel_rfl) (Below.refl _ _).drew ?_
                  repeat (first
                    | (refine keep_step (v := ?_) (by rfl) (fun u K hS hK => ?_) ?_
                       rotate_left
                       · obtain ⟨f1, f2⟩ := HCz.out u (HB7.out.trans (hS.mono HB7.out.size))
                         (go_simp; (with_reducible exact hK _ hS))
                       simp only [Act.put, List.setIfInBounds_toArray, List.set_cons_zero, List.set_cons_succ]))
                  refine keep_nil (fun wA hA => ?_)
                  have HSA := hide (HS7.out.up hA)
                  have HBA := hide (HB7.out.trans (hA.mono HB7.out.size))
                  clear hA HS7 HB7
                  go_wp2
                  go_roundw
                  case rel => exact ⟨q + 1, by go_num, by omega, HSA.out, HBA.out⟩
                  case measure => simp [intOf]; omega
                · obtain rfl : q = zs.length := by omega
                  have d3 : decide ((zs.length : Int) < (zs.length : Int)) = false := by simp
                  have HLk := hide (like_c HS7.out.bo HS7.out.once HS7.out.few ask)
                  rw [← HAsk.out] at HLk
                  go_wp2_with fail
                  refine HLk.out.mono ?_
                  rintro e w10 ⟨rfl, hb⟩
                  have HS10 := hide (HS7.out.up hb)
                  clear hb HLk HS7
                  go_wp2
                  go_roundw
                  case rel => exact ⟨i + 1, cut L ix, by go_num, by omega, HS10.out⟩
                  case measure => simp [intOf]; omega
        · obtain rfl : i = m := by omega
          have d1 : decide ((i : Int) < (i : Int)) = false := by simp
          have HBe := hide (HB2.out.trans (HS.out.lw.below.mono HB2.out.size))
          go_wp2
          go_ret
          exact ⟨rfl, HBe.out⟩
end Go.Proofs.YtlhjkacdhfchiaaDoor.LockPlaysW
