/- PathSets' walk. -/
import Derived.Test.YtifepgigkmhdaaaDoorPra
import Derived.Test.YtifepgigkmhdaaaDoorPk
import Derived.Test.YtifepgigkmhdaaaDoorPf
import Derived.BigQuiet
import Derived.Deep.QuietTactic
namespace Go.Proofs.YtifepgigkmhdaaaDoor.PathSetsW
set_option linter.unusedVariables false
set_option linter.unusedSimpArgs false
set_option maxRecDepth 100000
open Go.ChangeShapes Go.WideShapes Go.ChangeAt Go.RowKit
open Go.Proofs.YtifepgigkmhdaaaDoor.Wu Go.Proofs.YtifepgigkmhdaaaDoor.Rk Go.Proofs.YtifepgigkmhdaaaDoor.Eu Go.Proofs.YtifepgigkmhdaaaDoor.Pm Go.Proofs.YtifepgigkmhdaaaDoor.Pc Go.Proofs.YtifepgigkmhdaaaDoor.Pl Go.Proofs.YtifepgigkmhdaaaDoor.Pd Go.Proofs.YtifepgigkmhdaaaDoor.Pe Go.Proofs.YtifepgigkmhdaaaDoor.Pf Go.Proofs.YtifepgigkmhdaaaDoor.Pg Go.Proofs.YtifepgigkmhdaaaDoor.Ps Go.Proofs.YtifepgigkmhdaaaDoor.Pt Go.Proofs.YtifepgigkmhdaaaDoor.Pu Go.Proofs.YtifepgigkmhdaaaDoor.Pv Go.Proofs.YtifepgigkmhdaaaDoor.Px Go.Proofs.YtifepgigkmhdaaaDoor.Pk Go.Proofs.YtifepgigkmhdaaaDoor.Py Go.Proofs.YtifepgigkmhdaaaDoor.Psw Go.Proofs.YtifepgigkmhdaaaDoor.Pra
open Go.Proofs.YtifepgigkmhdaaaDoor.Er (Et)
attribute [local go_sem] kUpon_value kUpon_skip kUpon_enter
theorem setF_flag : ∀ {R S : List Tx} {i k : Nat} {c : Int}, setF S i R = .inr (k, c, true) → c = 90
  | [], S, i, k, c, h => by simp [setF] at h
  | p :: R, S, i, k, c, h => by
    rw [setF] at h
    split at h
    · split at h
      · exact setF_flag h
      · simp at h
    · simp at h; exact h.2.symm
theorem setF_code : ∀ {R S : List Tx} {i k : Nat} {c : Int}, setF S i R = .inr (k, c, false) → c ≠ 0
  | [], S, i, k, c, h => by simp [setF] at h
  | p :: R, S, i, k, c, h => by
    rw [setF] at h
    split at h
    · split at h
      · exact setF_code h
      · rename_i hz
        simp at h
        rw [← h.2]
        exact hz
    · simp at h
theorem out_walk (a : Option Addr) (m cap : Nat) (w : World) (he : Et w) (hg : 20 < m) :
    Calls Tryd.prog 7 #[.slice a m cap] w fun e w' => e = .returned (.bool true) ∧ Below w.heap.size w w' := by
  have HH := hide (checks_c w he)
  have d1 : decide ((20 : Int) < (m : Int)) = true := by simp; omega
  have d1' : decide (20 < m) = true := by simp; omega
  clear he
  go_enter Tryd.func7, Tryd.ntmps7
  go_wp2_with fail
  refine HH.out.mono ?_
  rintro e w1 ⟨rfl, hb1⟩
  have HB1 := hide hb1
  clear hb1
  go_wp2
  go_ret
  exact ⟨rfl, HB1.out⟩
set_option maxHeartbeats 6400000 in
theorem in_walk (a : Option Addr) (cap m : Nat) (l : List Tx) (w : World) (hml : l.length = m) (hs : SrcS w a l) (hc : m ≤ cap) (hm : cap ≤ 9223372036854775807) (hp : ∀ p ∈ l, p.length ≤ 9223372036854775807) (he : Et w) (hg : m ≤ 20) :
    Calls Tryd.prog 7 #[.slice a m cap] w fun e w' => e = .returned (.bool true) ∧ Below w.heap.size w w' := by
  have HH := hide (checks_c w he)
  have HSr := hide hs
  have HE := hide (fun (u : World) (hu : Below w.heap.size w u) => he.below hu (Nat.le_refl _))
  have HML := hide hml
  have HP := hide hp
  obtain ⟨b, off, ha, hcell⟩ := hs
  rw [hml] at ha
  have HCell := hide (fun (i : Nat) (p : Tx) (hi : l[i]? = some p) (u : World) (hu : Below w.heap.size w u) => keepC hu (Nat.le_refl _) (hcell i p hi))
  have HA := hide ha
  have d1 : decide ((20 : Int) < (m : Int)) = false := by simp; omega
  have d1' : decide (20 < m) = false := by simp; omega
  clear hcell hp ha hml he
  go_enter Tryd.func7, Tryd.ntmps7
  go_wp2_with fail
  refine HH.out.mono ?_
  rintro e w1 ⟨rfl, hb1⟩
  have HB1 := hide hb1
  clear hb1 HH
  go_wp2_with fail
  go_loopw [18] (fun j wr => ∃ i : Nat, j = .int .i64 (i : Int) ∧ i ≤ m ∧ (∀ p ∈ l.take i, p.length ≤ 200) ∧ wr = w1) (fun j _ => m - (intOf j).toNat)
  case atStart => exact ⟨0, rfl, Nat.zero_le _, by simp, rfl⟩
  case round =>
    obtain ⟨i, rfl, hi, hsh, rfl⟩ := hrel
    have HSh := hide hsh
    clear hsh
    by_cases hlt : i < m
    · obtain ⟨p, hpi⟩ : ∃ p, l[i]? = some p := ⟨l[i]'(by rw [HML.out]; exact hlt), by rw [List.getElem?_eq_getElem]⟩
      have hcp := HCell.out i p hpi _ HB1.out
      have hpl := HP.out p (List.mem_of_getElem? hpi)
      have HPi := hide hpi
      have hsz := bs_size p
      have ea := HA.out (by omega)
      subst ea
      clear hpi
      have d2 : decide ((i : Int) < (m : Int)) = true := by simpa using hlt
      have i1 : (0 : Int) ≤ (i : Int) := by omega
      have i2 : (i : Int) < (m : Int) := by omega
      by_cases hl : 200 < p.length
      · have d3 : decide ((200 : Int) < (p.length : Int)) = true := by simp; omega
        have d3' : decide (200 < p.length) = true := by simp; omega
        clear hl
        go_wp2
        go_ret
        exact ⟨rfl, HB1.out⟩
      · have d3 : decide ((200 : Int) < (p.length : Int)) = false := by simp; omega
        have d3' : decide (200 < p.length) = false := by simp; omega
        have HSh2 : Hid (∀ q ∈ l.take (i + 1), q.length ≤ 200) := hide (by
          rw [List.take_add_one, HPi.out]
          intro q hq
          rcases List.mem_append.1 hq with hq | hq
          · exact HSh.out q hq
          · simp at hq
            rw [hq]
            omega)
        clear hl HSh
        go_wp2
        go_roundw
        case rel => exact ⟨i + 1, by go_num, by omega, HSh2.out, trivial⟩
        case measure => simp [intOf]; omega
    · obtain rfl : i = m := by omega
      have d2 : decide ((i : Int) < (i : Int)) = false := by simp
      have HP2 : Hid (∀ q ∈ l, q.length ≤ 200) := hide (by
        have := HSh.out
        rwa [List.take_of_length_le (by rw [HML.out]; exact Nat.le_refl _)] at this)
      have HSet := hide (set_c a cap l wr (HSr.out.below HB1.out) (by rw [HML.out]; exact hc) hm (by rw [HML.out]; omega) HP.out)
      have HRef := hide (fun (u : World) (hu : Below w.heap.size w u) => refset_c a cap l u (HSr.out.below hu) (by rw [HML.out]; exact hc) hm (by rw [HML.out]; exact hg) HP2.out)
      rw [HML.out] at HSet HRef
      clear HSh hi HCell HA HP
      go_wp2_with fail
      refine HSet.out.mono ?_
      intro e w2 hset
      unfold SetR at hset
      obtain ⟨hset, hb2⟩ := hset
      have HB2 := hide (keepB hb2 (Nat.le_refl _) HB1.out)
      have hN2 := HB1.out.size
      clear hb2 HSet
      have HRf := HRef.out w2 HB2.out
      have HFl := hide (fun (k : Nat) (c : Int) (h : setF [] 0 l = .inr (k, c, true)) => setF_flag h)
      have HFc := hide (fun (k : Nat) (c : Int) (h : setF [] 0 l = .inr (k, c, false)) => setF_code h)
      cases hF : setF [] 0 l with
      | inl S =>
        rw [hF] at hset HRf
        obtain ⟨v, rfl, hv⟩ := hset
        have HO2 : Hid (OwnS w2 w.heap.size v S) := hide (OwnS.less (N := wr.heap.size) hv HB1.out.size)
        have HRf := hide HRf
        clear HFl HFc hF hv HRef
        go_wp2_with fail
        refine HRf.out.mono ?_
        intro e w3 hr
        unfold RSet at hr
        obtain ⟨⟨v', rfl, hv'⟩, hb3⟩ := hr
        have HB3 := hide (keepB hb3 (Nat.le_refl _) HB2.out)
        have HO3 := hide (own_up HO2.out hb3)
        have HQ3 : Hid (OwnS w3 w.heap.size v' S) := hide (OwnS.less (N := w2.heap.size) hv' HB2.out.size)
        obtain ⟨a4, c4, rfl, hc4, hm4, -, hadr4⟩ := HO3.out.form
        obtain ⟨a5, c5, rfl, hc5, hm5, -, hadr5⟩ := HQ3.out.form
        clear hb3 hv' HRf HO2 HB2
        have HNu := hide (number_c .nilIface 0 (-1) w3 (.inl ⟨rfl, rfl, rfl⟩) (HE.out w3 HB3.out))
        obtain ⟨n, hn⟩ : ∃ n, n = S.length := ⟨_, rfl⟩
        have HAd : Hid (0 < n → ∃ g g', a4 = some ⟨g, 0, none⟩ ∧ a5 = some ⟨g', 0, none⟩) := hide (fun h0 => by
          have k4 : a4 ≠ none := fun e => by
            subst e
            obtain ⟨b', o', h1, -⟩ := HO3.out.src
            have := h1 (by omega)
            cases this
          have k5 : a5 ≠ none := fun e => by
            subst e
            obtain ⟨b', o', h1, -⟩ := HQ3.out.src
            have := h1 (by omega)
            cases this
          obtain ⟨ad, had⟩ := Option.ne_none_iff_exists'.1 k4
          obtain ⟨ad', had'⟩ := Option.ne_none_iff_exists'.1 k5
          obtain ⟨g, hg, -⟩ := hadr4 ad had
          obtain ⟨g', hg', -⟩ := hadr5 ad' had'
          exact ⟨g, g', by rw [had, hg], by rw [had', hg']⟩)
        rw [← hn] at HO3 HQ3 hc4 hc5 ⊢
        have HN := hide hn
        unfold maxLen at hm4 hm5
        have q1 : ((n : Int) != (n : Int)) = false := by simp
        clear hadr4 hadr5 hn
        go_wp2_with fail
        refine HNu.out.mono ?_
        rintro e w4 ⟨rfl, hb4⟩
        have HB4 := hide (keepB hb4 (Nat.le_refl _) HB3.out)
        have HO4 := hide (own_up HO3.out hb4)
        have HQ4 := hide (own_up HQ3.out hb4)
        clear hb4 HNu HO3 HQ3 HB3
        go_wp2_with fail
        clear q1
        go_loopw [60] (fun j wr => ∃ x : Nat, j = .int .i64 (x : Int) ∧ x ≤ n ∧ Below w4.heap.size w4 wr) (fun j _ => n - (intOf j).toNat)
        case atStart => exact ⟨0, rfl, Nat.zero_le _, Below.refl _ _⟩
        case round =>
          obtain ⟨x, rfl, hx, hW⟩ := hrel
          have HW := hide hW
          clear hW
          by_cases hlx : x < n
          · obtain ⟨p, hp⟩ : ∃ p, S[x]? = some p := ⟨S[x]'(by rw [← HN.out]; exact hlx), by rw [List.getElem?_eq_getElem]⟩
            obtain ⟨g, g', rfl, rfl⟩ := HAd.out (by omega)
            have HC4 := hide (fun (u : World) (hu : Below w4.heap.size w4 u) => own_cell (own_up HO4.out hu) hp)
            have HC5 := hide (fun (u : World) (hu : Below w4.heap.size w4 u) => own_cell (own_up HQ4.out hu) hp)
            clear hp
            have d3 : decide ((x : Int) < (n : Int)) = true := by simpa using hlx
            have i1 : (0 : Int) ≤ (x : Int) := by omega
            have i2 : (x : Int) < (n : Int) := by omega
            go_wp2_with fail
            refine wp_region_keep (fun u => Below w4.heap.size w4 u) (by kernel_rfl) (by kernel_rfl) HW.out.drew ?_
            repeat (first
              | (refine keep_step (v := ?_) (by rfl) (fun u K hS hK => ?_) ?_
                 rotate_left
                 · have cx := HC4.out u hS
                   have cy := HC5.out u hS
                   (go_simp; with_reducible exact hK _ hS)
                 simp only [Act.put, List.setIfInBounds_toArray, List.set_cons_zero, List.set_cons_succ]))
            refine keep_nil (fun wA hA => ?_)
            have HA1 := hide hA
            clear hA HC4 HC5 HW
            go_wp2
            go_roundw
            case rel => exact ⟨x + 1, by go_num, by omega, HA1.out⟩
            case measure => simp [intOf]; omega
          · obtain rfl : x = n := by omega
            have d3 : decide ((x : Int) < (x : Int)) = false := by simp
            have HBe := hide (keepB HW.out (Nat.le_refl _) HB4.out)
            go_wp2
            go_ret
            exact ⟨rfl, HBe.out⟩
      | inr r =>
        obtain ⟨k, c, fl⟩ := r
        cases fl with
        | true =>
          obtain rfl := HFl.out k c hF
          rw [hF] at hset HRf
          obtain ⟨v, rfl, hv⟩ := hset
          have HRf := hide HRf
          have HV := hide hv
          clear HFl HFc hF hv HRef
          go_wp2_with fail
          refine HRf.out.mono ?_
          intro e w3 hr
          unfold RSet at hr
          obtain ⟨rfl, hb3⟩ := hr
          have HB3 := hide (keepB hb3 (Nat.le_refl _) HB2.out)
          have HV3 := hide (join_below HV.out hb3)
          clear hb3 HB2 HRf HV
          have HNu := hide (number_j v (k : Int) w3 HV3.out (HE.out w3 HB3.out))
          go_wp2_with fail
          refine HNu.out.mono ?_
          rintro e w4 ⟨rfl, hb4⟩
          have HB4 := hide (keepB hb4 (Nat.le_refl _) HB3.out)
          have HV4 := hide (join_below HV3.out hb4)
          clear hb4 HB3 HNu HV3
          have HPl := hide (place_j v (k : Int) w4 HV4.out (HE.out w4 HB4.out))
          have q1 : ((90 : Int) != (90 : Int)) = false := by simp
          have q2 : ((90 : Int) != 0) = true := by first | decide | simpa using hc0
          have q3 : ((k : Int) != (k : Int)) = false := by simp
          go_wp2_with fail
          refine HPl.out.mono ?_
          rintro e w5 ⟨rfl, hb5⟩
          have HB5 := hide (keepB hb5 (Nat.le_refl _) HB4.out)
          clear hb5 HB4 HPl
          go_wp2_with fail
          refine wp_loop_rounds 1 ?_
          rw [rounds_succ]
          go_wp2
          go_ret
          exact ⟨rfl, HB5.out⟩
        | false =>
          have hc0 := HFc.out k c hF
          rw [hF] at hset HRf
          obtain ⟨v, rfl, hv⟩ := hset
          have hv : IsErr w2 v c (k : Int) := by
            obtain ⟨b', e', h'⟩ := hv
            exact .inr (.inr ⟨b', _, _, e', h'⟩)
          have HRf := hide HRf
          have HV := hide hv
          clear HFl HFc hF hv HRef
          go_wp2_with fail
          refine HRf.out.mono ?_
          intro e w3 hr
          unfold RSet at hr
          obtain ⟨rfl, hb3⟩ := hr
          have HB3 := hide (keepB hb3 (Nat.le_refl _) HB2.out)
          have HV3 := hide (IsErr.below HV.out hb3)
          clear hb3 HB2 HRf HV
          have HNu := hide (number_c v c (k : Int) w3 HV3.out (HE.out w3 HB3.out))
          go_wp2_with fail
          refine HNu.out.mono ?_
          rintro e w4 ⟨rfl, hb4⟩
          have HB4 := hide (keepB hb4 (Nat.le_refl _) HB3.out)
          have HV4 := hide (IsErr.below HV3.out hb4)
          clear hb4 HB3 HNu HV3
          have HPl := hide (place_c v c (k : Int) w4 HV4.out (HE.out w4 HB4.out))
          have q1 : ((c : Int) != (c : Int)) = false := by simp
          have q2 : ((c : Int) != 0) = true := by first | decide | simpa using hc0
          have q3 : ((k : Int) != (k : Int)) = false := by simp
          go_wp2_with fail
          refine HPl.out.mono ?_
          rintro e w5 ⟨rfl, hb5⟩
          have HB5 := hide (keepB hb5 (Nat.le_refl _) HB4.out)
          clear hb5 HB4 HPl
          go_wp2_with fail
          refine wp_loop_rounds 1 ?_
          rw [rounds_succ]
          go_wp2
          go_ret
          exact ⟨rfl, HB5.out⟩
theorem walk_any (a : Option Addr) (m cap : Nat) (w : World) (l : List Tx) (hml : l.length = m) (hs : SrcS w a l) (hc : m ≤ cap) (hm : cap ≤ 9223372036854775807) (hp : ∀ p ∈ l, p.length ≤ 9223372036854775807) (he : Et w) :
    Calls Tryd.prog 7 #[.slice a m cap] w fun e w' => e = .returned (.bool true) ∧ Below w.heap.size w w' := by
  by_cases hg : 20 < m
  · exact out_walk a m cap w he hg
  · exact in_walk a cap m l w hml hs hc hm hp he (by omega)
end Go.Proofs.YtifepgigkmhdaaaDoor.PathSetsW
