/- Reference 09's Set. -/
import Derived.Test.YtlhjkacdhfchiaaDoorPsw
import Derived.Test.YtlhjkacdhfchiaaDoorRw
import Derived.OwnWalk
import Derived.Test.YtlhjkacdhfchiaaDoorRk
namespace Go.Proofs.YtlhjkacdhfchiaaDoor.Pra
set_option linter.unusedVariables false
set_option linter.unusedSimpArgs false
set_option maxRecDepth 100000
open Go.ChangeShapes Go.WideShapes Go.ChangeAt Go.RowKit
open Go.Proofs.YtlhjkacdhfchiaaDoor.Wu Go.Proofs.YtlhjkacdhfchiaaDoor.Rk Go.Proofs.YtlhjkacdhfchiaaDoor.Pm Go.Proofs.YtlhjkacdhfchiaaDoor.Pc Go.Proofs.YtlhjkacdhfchiaaDoor.Pl Go.Proofs.YtlhjkacdhfchiaaDoor.Pd Go.Proofs.YtlhjkacdhfchiaaDoor.Pe Go.Proofs.YtlhjkacdhfchiaaDoor.Pg Go.Proofs.YtlhjkacdhfchiaaDoor.Ps Go.Proofs.YtlhjkacdhfchiaaDoor.Pt Go.Proofs.YtlhjkacdhfchiaaDoor.Pu Go.Proofs.YtlhjkacdhfchiaaDoor.Pv Go.Proofs.YtlhjkacdhfchiaaDoor.Px Go.Proofs.YtlhjkacdhfchiaaDoor.Py Go.Proofs.YtlhjkacdhfchiaaDoor.Psw Go.Proofs.YtlhjkacdhfchiaaDoor.Rw
attribute [local go_sem] kUpon_value kUpon_skip kUpon_enter
/-- What the reference's Set answers. -/
def RSet (w : World) (F : List Tx ⊕ (Nat × Int × Bool)) (e : Ending) (w' : World) : Prop := (match F with
  | .inl S => ∃ v, e = .returned (.tuple #[v, .int .i64 0, .int .i64 0]) ∧ OwnS w' w.heap.size v S
  | .inr (i, c, _) => e = .returned (.tuple #[.slice none 0 0, .int .i64 c, .int .i64 (i : Int)])) ∧ Below w.heap.size w w'
theorem scan_take {p o : Tx} {l : List Tx} {k : Nat} (h : l[k]? = some o) : scan p (l.take (k + 1)) = stp p (scan p (l.take k)) o := by
  unfold scan
  rw [List.take_add_one, h]
  simp [List.foldl_append]
theorem bad_cases (p o : Tx) : (o = p ∧ bad p o = 5) ∨ (o ≠ p ∧ (pre o p || pre p o) = true ∧ bad p o = 90) ∨ (o ≠ p ∧ (pre o p || pre p o) = false ∧ bad p o = 0) := by
  unfold bad
  by_cases h : o = p
  · exact .inl ⟨h, by rw [if_pos h]⟩
  · by_cases h2 : (pre o p || pre p o) = true
    · exact .inr (.inl ⟨h, h2, by rw [if_neg h, if_pos h2]⟩)
    · exact .inr (.inr ⟨h, by simpa using h2, by rw [if_neg h, if_neg h2]⟩)
set_option maxHeartbeats 6400000 in
theorem refset_c (a : Option Addr) (cap : Nat) (l : List Tx) (w : World) (hs : SrcS w a l) (hc : l.length ≤ cap) (hm : cap ≤ 9223372036854775807) (hbig : l.length ≤ 20) (hp : ∀ p ∈ l, p.length ≤ 200) :
    Calls Tryd.prog 42 #[.slice a l.length cap] w (RSet w (setF [] 0 l)) := by
  have HSr := hide hs
  obtain ⟨b, off, ha, hcell⟩ := hs
  obtain ⟨m, hml⟩ : ∃ m, m = l.length := ⟨_, rfl⟩
  have HML := hide hml
  rw [← hml] at ha hc hbig ⊢
  have HCell := hide (fun (i : Nat) (p : Tx) (hi : l[i]? = some p) (u : World) (hu : Below w.heap.size w u) => keepC hu (Nat.le_refl _) (hcell i p hi))
  have HP := hide hp
  have HA := hide ha
  obtain ⟨F, hF⟩ : ∃ F, F = setF [] 0 l := ⟨_, rfl⟩
  have HF : Hid (setF [] 0 (l.drop 0) = F) := hide (by rw [List.drop_zero, hF])
  have HF0 := hide hF
  rw [← hF]
  have HPost : Hid (∀ e w', RSet w F e w' → RSet w F e w') := hide (fun e w' h => h)
  generalize hRR : RSet w F = R at HPost ⊢
  have HRR := hide hRR
  clear hcell hp ha hF hml HPost hRR
  go_enter Tryd.func42, Tryd.ntmps42
  go_wp2_with fail
  go_loopw [5] (fun j wr => ∃ (i : Nat) (S : List Tx), j = .int .i64 (i : Int) ∧ i ≤ m ∧ Srt S ∧ S.Perm (l.take i) ∧ setF S i (l.drop i) = F ∧ Below w.heap.size w wr) (fun j _ => m - (intOf j).toNat)
  case atStart => exact ⟨0, [], rfl, Nat.zero_le _, List.Pairwise.nil, by rw [List.take_zero], HF.out, Below.refl _ _⟩
  case round =>
    clear HF
    obtain ⟨i, S, rfl, hi, hsrt, hperm, hF, hB⟩ := hrel
    have HO := hide (⟨hsrt, hperm⟩ : _ ∧ _)
    have HF := hide hF
    have HB := hide hB
    clear hsrt hperm hF hB
    by_cases hlt : i < m
    · obtain ⟨p, hpi⟩ : ∃ p, l[i]? = some p := ⟨l[i]'(by rw [← HML.out]; exact hlt), by rw [List.getElem?_eq_getElem]⟩
      have hcp := HCell.out i p hpi _ HB.out
      have hpl := HP.out p (List.mem_of_getElem? hpi)
      have hdr : l.drop i = p :: l.drop (i + 1) := by
        rw [List.drop_eq_getElem_cons (List.getElem?_eq_some_iff.1 hpi).1, (List.getElem?_eq_some_iff.1 hpi).2]
      have HF2 : Hid ((if check p = none then (if agn p S = 0 then setF (ins S p) (i + 1) (l.drop (i + 1)) else .inr (i, agn p S, false)) else .inr (i, 90, true)) = F) := hide (by
        have := HF.out
        rw [hdr] at this
        exact this)
      have HPi := hide hpi
      have ea := HA.out (by omega)
      subst ea
      clear hdr HF hpi
      have d1 : decide ((i : Int) < (m : Int)) = true := by simpa using hlt
      have i1 : (0 : Int) ≤ (i : Int) := by omega
      have i2 : (i : Int) < (m : Int) := by omega
      have HCk := hide (refCheck_c p wr (by omega))
      go_wp2_with fail
      refine HCk.out.mono ?_
      rintro e w1 ⟨rfl, rfl⟩
      clear HCk
      cases hck : check p with
      | some q =>
        have HF3 := hide HF2.out
        rw [if_neg (by rw [hck]; simp)] at HF3
        clear HF2 hck hcp
        unfold refV
        go_wp2
        refine ⟨rfl, _, results_tmp3 rfl _ _ _, ?_⟩
        rw [← HRR.out]
        refine ⟨?_, HB.out⟩
        rw [← HF3.out]
        rfl
      | none =>
        have HF3 := hide HF2.out
        rw [if_pos hck] at HF3
        clear HF2 hck
        unfold refV
        go_wp2_with fail
        have hfst : (⟨#[]⟩ : ByteArray) = bs [] := rfl
        rw [hfst]
        clear hfst hcp
        go_loopw [10, 9, 8] (fun j c f wr => ∃ k : Nat, j = .int .i64 (k : Int) ∧ k ≤ i ∧ c = .int .i64 (scan p (l.take k)).1 ∧ f = .string (bs (scan p (l.take k)).2) ∧ Below w.heap.size w wr) (fun j _ _ _ => i - (intOf j).toNat)
        case atStart => exact ⟨0, rfl, Nat.zero_le _, by rw [List.take_zero]; rfl, by rw [List.take_zero]; rfl, HB.out⟩
        case round =>
          clear HB
          obtain ⟨k, rfl, hki, rfl, rfl, hB⟩ := hrel
          have HB := hide hB
          clear hB
          by_cases hlk : k < i
          · obtain ⟨o, hoi⟩ : ∃ o, l[k]? = some o := ⟨l[k]'(by rw [← HML.out]; omega), by rw [List.getElem?_eq_getElem]⟩
            have hol := HP.out o (List.mem_of_getElem? hoi)
            have HOi := hide hoi
            have HSt := hide (scan_take (p := p) hoi)
            obtain ⟨s, hs⟩ : ∃ s, s = scan p (l.take k) := ⟨_, rfl⟩
            rw [← hs] at HSt ⊢
            clear hs hoi
            have d2 : decide ((k : Int) < (i : Int)) = true := by simpa using hlk
            have k1 : (0 : Int) ≤ (k : Int) := by omega
            have k2 : (k : Int) < (m : Int) := by omega
            obtain ⟨s1, s2⟩ := s
            have HClash := hide (fun u : World => refClash_c o p u (by omega) (by omega))
            have hless : Op.bytesLess (bs o).toList (bs s2).toList = decide (o < s2) := by rw [bs_toList, bs_toList]; exact less_eq o s2
            have heq := eq_texts o p
            rcases bad_cases p o with ⟨h0, hbad⟩ | ⟨h0, hcl, hbad⟩ | ⟨h0, hcl, hbad⟩
            · rw [decide_eq_true h0] at heq
              clear h0
              go_wp2_with fail
              refine wp_region_keep (fun u => Below w.heap.size w u) (by kernel_rfl) (by kernel_rfl) HB.out.drew ?_
              repeat (first
                | (refine keep_step (v := ?_) (by rfl) (fun u K hS hK => ?_) ?_
                   rotate_left
                   · have ck := HCell.out k o HOi.out u hS
                     have ci := HCell.out i p HPi.out u hS
                     (go_simp; first
                       | (go_at_call 73; (with_reducible refine Calls.mono (HClash.out u) ?_); rintro e u2 ⟨rfl, rfl⟩; exact hK _ hS)
                       | (with_reducible exact hK _ hS))
                   simp only [Act.put, List.setIfInBounds_toArray, List.set_cons_zero, List.set_cons_succ]))
              refine keep_nil (fun wA hA => ?_)
              have HBA := hide hA
              clear hA HB heq
              have ck := HCell.out k o HOi.out _ HBA.out
              by_cases hs0 : s1 = 0
              · have HS1 : Hid (scan p (l.take (k + 1)) = (5, o)) := hide (by rw [HSt.out]; unfold stp; rw [if_pos ⟨by rw [hbad]; decide, .inl hs0⟩, hbad])
                subst hs0
                clear hbad HSt hless
                go_wp2
                go_roundw
                case rel => exact ⟨k + 1, by go_num, by omega, by rw [HS1.out], by rw [HS1.out], HBA.out⟩
                case measure => simp [intOf]; omega
              · have g1 : (s1 == 0) = false := by simpa using hs0
                by_cases hl : o < s2
                · have HS1 : Hid (scan p (l.take (k + 1)) = (5, o)) := hide (by rw [HSt.out]; unfold stp; rw [if_pos ⟨by rw [hbad]; decide, .inr hl⟩, hbad])
                  rw [decide_eq_true hl] at hless
                  clear hbad HSt hs0 hl
                  go_wp2
                  go_roundw
                  case rel => exact ⟨k + 1, by go_num, by omega, by rw [HS1.out], by rw [HS1.out], HBA.out⟩
                  case measure => simp [intOf]; omega
                · have HS1 : Hid (scan p (l.take (k + 1)) = (s1, s2)) := hide (by rw [HSt.out]; unfold stp; rw [if_neg (fun h => h.2.elim hs0 hl)])
                  rw [decide_eq_false hl] at hless
                  clear hbad HSt hs0 hl
                  go_wp2
                  go_roundw
                  case rel => exact ⟨k + 1, by go_num, by omega, by rw [HS1.out], by rw [HS1.out], HBA.out⟩
                  case measure => simp [intOf]; omega
            · rw [decide_eq_false h0] at heq
              rw [hcl] at HClash
              clear h0 hcl
              go_wp2_with fail
              refine wp_region_keep (fun u => Below w.heap.size w u) (by kernel_rfl) (by kernel_rfl) HB.out.drew ?_
              repeat (first
                | (refine keep_step (v := ?_) (by rfl) (fun u K hS hK => ?_) ?_
                   rotate_left
                   · have ck := HCell.out k o HOi.out u hS
                     have ci := HCell.out i p HPi.out u hS
                     (go_simp; first
                       | (go_at_call 73; (with_reducible refine Calls.mono (HClash.out u) ?_); rintro e u2 ⟨rfl, rfl⟩; exact hK _ hS)
                       | (with_reducible exact hK _ hS))
                   simp only [Act.put, List.setIfInBounds_toArray, List.set_cons_zero, List.set_cons_succ]))
              refine keep_nil (fun wA hA => ?_)
              have HB := hide hA
              clear hA heq
              go_wp2_with fail
              refine wp_region_keep (fun u => Below w.heap.size w u) (by kernel_rfl) (by kernel_rfl) HB.out.drew ?_
              repeat (first
                | (refine keep_step (v := ?_) (by rfl) (fun u K hS hK => ?_) ?_
                   rotate_left
                   · have ck := HCell.out k o HOi.out u hS
                     have ci := HCell.out i p HPi.out u hS
                     (go_simp; first
                       | (go_at_call 73; (with_reducible refine Calls.mono (HClash.out u) ?_); rintro e u2 ⟨rfl, rfl⟩; exact hK _ hS)
                       | (with_reducible exact hK _ hS))
                   simp only [Act.put, List.setIfInBounds_toArray, List.set_cons_zero, List.set_cons_succ]))
              refine keep_nil (fun wB hA => ?_)
              have HBA := hide hA
              clear hA HB
              have ck := HCell.out k o HOi.out _ HBA.out
              by_cases hs0 : s1 = 0
              · have HS1 : Hid (scan p (l.take (k + 1)) = (90, o)) := hide (by rw [HSt.out]; unfold stp; rw [if_pos ⟨by rw [hbad]; decide, .inl hs0⟩, hbad])
                subst hs0
                clear hbad HSt hless
                go_wp2
                go_roundw
                case rel => exact ⟨k + 1, by go_num, by omega, by rw [HS1.out], by rw [HS1.out], HBA.out⟩
                case measure => simp [intOf]; omega
              · have g1 : (s1 == 0) = false := by simpa using hs0
                by_cases hl : o < s2
                · have HS1 : Hid (scan p (l.take (k + 1)) = (90, o)) := hide (by rw [HSt.out]; unfold stp; rw [if_pos ⟨by rw [hbad]; decide, .inr hl⟩, hbad])
                  rw [decide_eq_true hl] at hless
                  clear hbad HSt hs0 hl
                  go_wp2
                  go_roundw
                  case rel => exact ⟨k + 1, by go_num, by omega, by rw [HS1.out], by rw [HS1.out], HBA.out⟩
                  case measure => simp [intOf]; omega
                · have HS1 : Hid (scan p (l.take (k + 1)) = (s1, s2)) := hide (by rw [HSt.out]; unfold stp; rw [if_neg (fun h => h.2.elim hs0 hl)])
                  rw [decide_eq_false hl] at hless
                  clear hbad HSt hs0 hl
                  go_wp2
                  go_roundw
                  case rel => exact ⟨k + 1, by go_num, by omega, by rw [HS1.out], by rw [HS1.out], HBA.out⟩
                  case measure => simp [intOf]; omega
            · rw [decide_eq_false h0] at heq
              rw [hcl] at HClash
              clear h0 hcl
              go_wp2_with fail
              refine wp_region_keep (fun u => Below w.heap.size w u) (by kernel_rfl) (by kernel_rfl) HB.out.drew ?_
              repeat (first
                | (refine keep_step (v := ?_) (by rfl) (fun u K hS hK => ?_) ?_
                   rotate_left
                   · have ck := HCell.out k o HOi.out u hS
                     have ci := HCell.out i p HPi.out u hS
                     (go_simp; first
                       | (go_at_call 73; (with_reducible refine Calls.mono (HClash.out u) ?_); rintro e u2 ⟨rfl, rfl⟩; exact hK _ hS)
                       | (with_reducible exact hK _ hS))
                   simp only [Act.put, List.setIfInBounds_toArray, List.set_cons_zero, List.set_cons_succ]))
              refine keep_nil (fun wA hA => ?_)
              have HB := hide hA
              clear hA heq
              go_wp2_with fail
              refine wp_region_keep (fun u => Below w.heap.size w u) (by kernel_rfl) (by kernel_rfl) HB.out.drew ?_
              repeat (first
                | (refine keep_step (v := ?_) (by rfl) (fun u K hS hK => ?_) ?_
                   rotate_left
                   · have ck := HCell.out k o HOi.out u hS
                     have ci := HCell.out i p HPi.out u hS
                     (go_simp; first
                       | (go_at_call 73; (with_reducible refine Calls.mono (HClash.out u) ?_); rintro e u2 ⟨rfl, rfl⟩; exact hK _ hS)
                       | (with_reducible exact hK _ hS))
                   simp only [Act.put, List.setIfInBounds_toArray, List.set_cons_zero, List.set_cons_succ]))
              refine keep_nil (fun wB hA => ?_)
              have HBA := hide hA
              clear hA HB
              have ck := HCell.out k o HOi.out _ HBA.out
              have HS1 : Hid (scan p (l.take (k + 1)) = (s1, s2)) := hide (by rw [HSt.out]; unfold stp; rw [if_neg (fun h => h.1 hbad)])
              clear hbad HSt hless
              go_wp2
              go_roundw
              case rel => exact ⟨k + 1, by go_num, by omega, by rw [HS1.out], by rw [HS1.out], HBA.out⟩
              case measure => simp [intOf]; omega
          · obtain rfl : k = i := by omega
            have d2 : decide ((k : Int) < (k : Int)) = false := by simp
            have hsc := scan_agn (p := p) HO.out.1 HO.out.2
            rw [hsc]
            obtain ⟨z, hz⟩ : ∃ z, z = agn p S := ⟨_, rfl⟩
            by_cases hz0 : z = 0
            · have hne : ∀ o ∈ S, o ≠ p := fun o ho e => by
                have := agn_zero.1 (hz.symm.trans hz0) o ho
                unfold bad at this
                rw [if_pos e] at this
                cases this
              have HO2 : Hid (Srt (ins S p) ∧ (ins S p).Perm (l.take (k + 1))) := hide ⟨ins_srt HO.out.1 hne, by
                rw [List.take_add_one, HPi.out]
                exact (ins_perm HO.out.1).trans ((List.Perm.cons p HO.out.2).trans (List.perm_append_singleton p (l.take k)).symm)⟩
              rw [← hz] at HF3 ⊢
              rw [if_pos hz0] at HF3
              subst hz0
              clear hz hsc hne
              go_wp2
              go_roundw
              case rel => exact ⟨k + 1, ins S p, by go_num, by omega, HO2.out.1, HO2.out.2, HF3.out, HB.out⟩
              case measure => simp [intOf]; omega
            · rw [← hz] at HF3 ⊢
              rw [if_neg hz0] at HF3
              have d3 : (z != 0) = true := by simpa using hz0
              clear hz hsc hz0
              go_wp2
              refine ⟨rfl, _, results_tmp3 rfl _ _ _, ?_⟩
              rw [← HRR.out]
              refine ⟨?_, HB.out⟩
              rw [← HF3.out]
              rfl
    · obtain rfl : i = m := by omega
      have d1 : decide ((i : Int) < (i : Int)) = false := by simp
      have HFS : Hid (F = .inl S) := hide (by
        rw [← HF.out, List.drop_of_length_le (by rw [← HML.out]; exact Nat.le_refl _)]
        rfl)
      have HPm : Hid (Srt S ∧ S.Perm l) := hide ⟨HO.out.1, by
        have := HO.out.2
        rwa [List.take_of_length_le (by rw [← HML.out]; exact Nat.le_refl _)] at this⟩
      have hlE : l.length = i := HML.out.symm
      have HApp := hide (append_rest (wr.alloc (.cells #[] 9)) 52 (.slice (some ⟨wr.heap.size, 0, none⟩) 0 0) wr.heap.size [] l a cap ⟨by simp, .inr ⟨wr.heap.size, 0, #[], rfl, Nat.le_refl _, heap_last _ _, Nat.zero_le _, Nat.zero_le _, by simp, by simp⟩⟩ (HSr.out.below (keepB (below_new wr (.cells #[] 9)) (Nat.le_refl _) HB.out)) (by simp) (by simp; omega))
      rw [hlE, List.nil_append] at HApp
      obtain ⟨v2, w2, hrun, ho2, hb2⟩ := HApp.out
      have Hrun := hide hrun
      have HO2 : Hid (OwnS w2 w.heap.size v2 l) := hide (OwnS.less (N := wr.heap.size) ho2 HB.out.size)
      have HB2 := hide (keepB ((below_new wr (.cells #[] 9)).trans hb2) (Nat.le_refl _) HB.out)
      obtain ⟨a3, c3, rfl, hc3, hm3, hnil, hadr⟩ := HO2.out.form
      rw [hlE] at Hrun HO2 hc3
      have HAd : Hid (0 < i → ∃ g, a3 = some ⟨g, 0, none⟩ ∧ w.heap.size ≤ g) := hide (fun h0 => by
        cases a3 with
        | none =>
          have := (hnil rfl).1
          rw [this] at hlE
          simp at hlE
          omega
        | some ad =>
          obtain ⟨g, rfl, hg, -⟩ := hadr ad rfl
          exact ⟨g, rfl, hg⟩)
      have HlE := hide hlE
      unfold maxLen at hm3
      clear hrun ho2 hb2 HApp hnil hadr hlE HO HF HB hi
      go_wp2_with (refine wpList_append_at (w' := w2) (v' := .slice a3 i c3) rfl 52 (.tmp 79) (.tmp 80) rfl Hrun.out ?_)
      clear Hrun
      go_loopw [13] (fun j wq => ∃ (n : Nat) (out : List Tx), j = .int .i64 (n : Int) ∧ n ≤ i ∧ out.length = i ∧ OwnS wq w.heap.size (.slice a3 i c3) out ∧ out.Perm l ∧ Std out n ∧ Below w.heap.size w wq) (fun j _ => i - (intOf j).toNat)
      case atStart => exact ⟨0, l, rfl, Nat.zero_le _, HlE.out, HO2.out, List.Perm.refl _, (fun a b x y h => absurd h (by omega)), HB2.out⟩
      case round =>
        clear HO2 HB2
        obtain ⟨n, out, rfl, hn, hlen, hO, hperm, hstd, hB⟩ := hrel
        have HX := hide (⟨hlen, hO, hperm, hstd, hB⟩ : _ ∧ _ ∧ _ ∧ _ ∧ _)
        clear hlen hO hperm hstd hB
        by_cases hni : n < i
        · obtain ⟨g, rfl, hg⟩ := HAd.out (by omega)
          have d2 : decide ((n : Int) < (i : Int)) = true := by simpa using hni
          have n1 : (0 : Int) ≤ (n : Int) := by omega
          have n2 : (n : Int) < (i : Int) := by omega
          go_wp2_with fail
          go_loopw [14] (fun j wq => ∃ (k : Nat) (out : List Tx), j = .int .i64 (k : Int) ∧ n + 1 ≤ k ∧ k ≤ i ∧ out.length = i ∧ OwnS wq w.heap.size (.slice (some ⟨g, 0, none⟩) i c3) out ∧ out.Perm l ∧ Std out n ∧ Mid out n k ∧ Below w.heap.size w wq) (fun j _ => i - (intOf j).toNat)
          case atStart => exact ⟨n + 1, out, by go_num, Nat.le_refl _, by omega, HX.out.1, HX.out.2.1, HX.out.2.2.1, HX.out.2.2.2.1, (fun b x y h1 h2 => absurd h1 (by omega)), HX.out.2.2.2.2⟩
          case round =>
            clear HX
            obtain ⟨k, out, rfl, hnk, hki, hlen, hO, hperm, hstd, hmid, hB⟩ := hrel
            have HX := hide (⟨hlen, hO, hperm, hstd, hmid, hB⟩ : _ ∧ _ ∧ _ ∧ _ ∧ _ ∧ _)
            clear hlen hO hperm hstd hmid hB
            by_cases hk : k < i
            · have d3 : decide ((k : Int) < (i : Int)) = true := by simpa using hk
              have k1 : (0 : Int) ≤ (k : Int) := by omega
              have k2 : (k : Int) < (i : Int) := by omega
              obtain ⟨x, hx⟩ : ∃ x, out[n]? = some x := ⟨out[n]'(by rw [HX.out.1]; omega), by rw [List.getElem?_eq_getElem]⟩
              obtain ⟨y, hy⟩ : ∃ y, out[k]? = some y := ⟨out[k]'(by rw [HX.out.1]; omega), by rw [List.getElem?_eq_getElem]⟩
              have Hx := hide hx
              have Hy := hide hy
              clear hx hy
              have hless : Op.bytesLess (bs y).toList (bs x).toList = decide (y < x) := by rw [bs_toList, bs_toList]; exact less_eq y x
              go_wp2_with fail
              refine wp_region_keep (fun u => OwnS u w.heap.size (.slice (some ⟨g, 0, none⟩) i c3) out ∧ Below w.heap.size w u) (by kernel_rfl) (by kernel_rfl) ⟨HX.out.2.1.same (fun g hg => rfl), HX.out.2.2.2.2.2.drew⟩ ?_
              repeat (first
                | (refine keep_step (v := ?_) (by rfl) (fun u K hS hK => ?_) ?_
                   rotate_left
                   · have cx := own_cell hS.1 Hx.out
                     have cy := own_cell hS.1 Hy.out
                     (go_simp; with_reducible exact hK _ hS)
                   simp only [Act.put, List.setIfInBounds_toArray, List.set_cons_zero, List.set_cons_succ]))
              refine keep_nil (fun wA hA => ?_)
              have HA1 := hide hA
              clear hA
              by_cases hl : y < x
              · rw [decide_eq_true hl]
                have cx := own_cell HA1.out.1 Hx.out
                have cy := own_cell HA1.out.1 Hy.out
                have fx := own_free (i := n) HA1.out.1
                have HO1 := hide (own_set (i := n) y HA1.out.1 (by rw [HX.out.1]; omega))
                have cy2 := own_cell (i := k) (p := y) HO1.out (by rw [List.getElem?_set_ne (by omega)]; exact Hy.out)
                have fy2 := own_free (i := k) HO1.out
                have HO2 := hide (own_set (i := k) x HO1.out (by rw [List.length_set, HX.out.1]; omega))
                have HB2 := hide ((HA1.out.2.setCell (p := ⟨g, n, none⟩) (by simpa using hg) (.string (bs y))).setCell (p := ⟨g, k, none⟩) (by simpa using hg) (.string (bs x)))
                have HM2 := hide (⟨std_swap (by omega) Hx.out Hy.out HX.out.2.2.2.1, mid_swap (by omega) Hx.out Hy.out hl HX.out.2.2.2.2.1, (swap_perm Hx.out Hy.out).trans HX.out.2.2.1⟩ : _ ∧ _ ∧ _)
                have HL2 : Hid (((out.set n y).set k x).length = i) := hide (by rw [List.length_set, List.length_set]; exact HX.out.1)
                clear hless hl HX HA1 HO1 Hx Hy
                go_wp2
                go_roundw
                case rel => exact ⟨k + 1, (out.set n y).set k x, by go_num, by omega, by omega, HL2.out, HO2.out, HM2.out.2.2, HM2.out.1, HM2.out.2.1, HB2.out⟩
                case measure => simp [intOf]; omega
              · rw [decide_eq_false hl]
                have HM2 := hide (mid_keep Hx.out Hy.out hl HX.out.2.2.2.2.1)
                clear hless hl Hx Hy
                go_wp2
                go_roundw
                case rel => exact ⟨k + 1, out, by go_num, by omega, by omega, HX.out.1, HA1.out.1, HX.out.2.2.1, HX.out.2.2.2.1, HM2.out, HA1.out.2⟩
                case measure => simp [intOf]; omega
            · obtain rfl : k = i := by omega
              have d3 : decide ((k : Int) < (k : Int)) = false := by simp
              have HS2 := hide (std_next HX.out.2.2.2.1 (by rw [HX.out.1]; exact HX.out.2.2.2.2.1))
              go_wp2
              go_roundw
              case rel => exact ⟨n + 1, out, by go_num, by omega, HX.out.1, HX.out.2.1, HX.out.2.2.1, HS2.out, HX.out.2.2.2.2.2⟩
              case measure => simp [intOf]; omega
        · obtain rfl : n = i := by omega
          have d2 : decide ((n : Int) < (n : Int)) = false := by simp
          have hE : out = S := std_eq (by rw [HX.out.1]; exact HX.out.2.2.2.1) HPm.out.1 (HPm.out.2.trans HX.out.2.2.1.symm)
          have HE := hide hE
          clear hE
          go_wp2
          refine ⟨rfl, _, results_tmp3 rfl _ _ _, ?_⟩
          rw [← HRR.out]
          refine ⟨?_, HX.out.2.2.2.2⟩
          rw [HFS.out]
          exact ⟨_, rfl, by rw [← HE.out]; exact HX.out.2.1⟩
end Go.Proofs.YtlhjkacdhfchiaaDoor.Pra
