/- Reference 12: Find, meet, Has. -/
import Derived.Test.YtlhjkacdhfchiaaDoorLg
import Derived.Test.YtlhjkacdhfchiaaDoorPra
namespace Go.Proofs.YtlhjkacdhfchiaaDoor.Na
set_option linter.unusedVariables false
set_option linter.unusedSimpArgs false
set_option maxRecDepth 100000
open Go.ChangeShapes Go.WideShapes Go.ChangeAt Go.RowKit
open Go.Proofs.YtlhjkacdhfchiaaDoor.Wu Go.Proofs.YtlhjkacdhfchiaaDoor.Rk Go.Proofs.YtlhjkacdhfchiaaDoor.Pm Go.Proofs.YtlhjkacdhfchiaaDoor.Pc Go.Proofs.YtlhjkacdhfchiaaDoor.Pl Go.Proofs.YtlhjkacdhfchiaaDoor.Pd Go.Proofs.YtlhjkacdhfchiaaDoor.Pe Go.Proofs.YtlhjkacdhfchiaaDoor.Pg Go.Proofs.YtlhjkacdhfchiaaDoor.Ps Go.Proofs.YtlhjkacdhfchiaaDoor.La Go.Proofs.YtlhjkacdhfchiaaDoor.Lb Go.Proofs.YtlhjkacdhfchiaaDoor.Lc Go.Proofs.YtlhjkacdhfchiaaDoor.Ld
attribute [local go_sem] kUpon_value kUpon_skip kUpon_enter
set_option maxHeartbeats 1600000 in
theorem rfind_c (a : Option Addr) (m c : Nat) (us : List La.Ask) (who : Int) (w : World) (hu : IsAs w a m c us) :
    Calls Tryd.prog 41 #[.slice a m c, .int .i64 who] w fun e w' => e = .returned (.int .i64 (place us who)) ∧ w' = w := by
  obtain ⟨hlen, hmc, hcm, g, off, ha, hcell⟩ := hu
  have HL := hide hlen
  have HC := hide hcell
  clear hcell hlen
  go_enter Tryd.func41, Tryd.ntmps41
  go_wp2_with fail
  go_loopw [5] (fun j wr => ∃ k, j = .int .i64 ((k : Nat) : Int) ∧ k ≤ m ∧ Hid (∀ x ∈ us.take k, isWho who x = false) ∧ wr = w) (fun j _ => m - (intOf j).toNat)
  case atStart => exact ⟨0, rfl, Nat.zero_le _, (show ∀ x ∈ us.take 0, _ from by simp), rfl⟩
  case round =>
    obtain ⟨k, rfl, hk, HN, rfl⟩ := hrel
    by_cases hlt : k < m
    · have hex : ∃ u, us[k]? = some u := ⟨us[k]'(by rw [HL.out]; exact hlt), by rw [List.getElem?_eq_getElem]⟩
      obtain ⟨u0, hks⟩ := hex
      obtain ⟨c0, c1⟩ := HC.out k u0 hks
      have Hk := hide hks
      obtain rfl := ha (by omega)
      clear hks ha c1
      have d1 : decide ((k : Int) < (m : Int)) = true := by simpa using hlt
      have i1 : (0 : Int) ≤ (k : Int) := by omega
      have i2 : (k : Int) < (m : Int) := by omega
      obtain ⟨n, hn⟩ : ∃ n, n = u0.1 := ⟨_, rfl⟩
      rw [← hn] at c0
      cases hq : isWho who u0 with
      | true =>
        have HP := hide (place_hit Hk.out hq HN.out)
        unfold isWho at hq
        rw [← hn] at hq
        have hq2 : decide (n = who) = true := decide_eq_true (by simpa using hq)
        clear hn
        go_wp2
        go_ret
        exact ⟨by rw [HP.out]; rfl, rfl⟩
      | false =>
        have HNx : Hid (∀ x ∈ us.take (k + 1), isWho who x = false) := hide (fun x hx => by
          rw [List.take_add_one, Hk.out] at hx
          rcases List.mem_append.1 hx with hx | hx
          · exact HN.out x hx
          · simp at hx; rw [hx]; exact hq)
        unfold isWho at hq
        rw [← hn] at hq
        have hq2 : decide (n = who) = false := decide_eq_false (by simpa using hq)
        clear hn HN
        go_wp2
        go_roundw
        case rel => exact ⟨k + 1, by go_num, by omega, HNx, trivial⟩
        case measure => simp [intOf]; omega
    · obtain rfl : k = m := by omega
      have d1 : decide ((k : Int) < (k : Int)) = false := by simp
      have HP := hide (place_miss (us := us) (who := who) (by
        have := HN.out
        rwa [List.take_of_length_le (by rw [HL.out]; exact Nat.le_refl _)] at this))
      clear hk ha HN
      go_wp2
      go_ret
      exact ⟨by rw [HP.out]; rfl, rfl⟩
set_option maxHeartbeats 3200000 in
theorem rmeet_c (n n' : Int) (a a' : Option Addr) (m c m' c' : Nat) (P Q : List (List UInt8)) (w : World) (hP : SrcS w a P) (hPl : P.length = m) (hc : m ≤ c) (hm : c ≤ 9223372036854775807) (hQ : SrcS w a' Q) (hQl : Q.length = m') (hc' : m' ≤ c') (hm' : c' ≤ 9223372036854775807) (h1 : ∀ p ∈ P, p.length ≤ 200) (h2 : ∀ q ∈ Q, q.length ≤ 200) :
    Calls Tryd.prog 46 #[.agg #[.int .i64 n, .slice a m c], .agg #[.int .i64 n', .slice a' m' c']] w fun e w' => e = .returned (.bool (way P Q)) ∧ Below w.heap.size w w' := by
  obtain ⟨b, off, ha, hcell⟩ := hP
  obtain ⟨b', off', ha', hcell'⟩ := hQ
  rw [hPl] at ha
  rw [hQl] at ha'
  have hA1 := below_new w (.cells #[.int .i64 n, .slice a m c] 58)
  have hX1 := heap_last w (.cells #[.int .i64 n, .slice a m c] 58)
  obtain ⟨wa, hwa⟩ : ∃ wa, wa = w.alloc (.cells #[.int .i64 n, .slice a m c] 58) := ⟨_, rfl⟩
  rw [← hwa] at hA1 hX1
  have hA2 := below_new wa (.cells #[.int .i64 n', .slice a' m' c'] 58)
  have hX2 := heap_last wa (.cells #[.int .i64 n', .slice a' m' c'] 58)
  have hX3 := below_blk hA2 (heap_lt hX1) hX1
  have hBB := keepB hA2 (Nat.le_refl _) hA1
  have HB := hide hBB
  have HC := hide (fun i p (hi : P[i]? = some p) => keepC hBB (Nat.le_refl _) (hcell i p hi))
  have HC' := hide (fun i p (hi : Q[i]? = some p) => keepC hBB (Nat.le_refl _) (hcell' i p hi))
  have q1 := blk_cell (i := 1) hX3 rfl
  have q2 := blk_cell (i := 1) hX2 rfl
  have esz : wa.heap.size = w.heap.size + 1 := by rw [hwa]; exact World.size_alloc _ _
  rw [esz] at q2
  rw [hwa] at q1 q2 HB HC HC'
  have HA := hide ha
  have HA' := hide ha'
  have HPl := hide hPl
  have HQl := hide hQl
  have H1 := hide h1
  have H2 := hide h2
  clear esz hcell hcell' ha ha' hPl hQl h1 h2 hA1 hX1 hA2 hX2 hX3 hBB hwa
  go_enter Tryd.func46, Tryd.ntmps46
  go_wp2_with fail
  generalize hw1 : ((w.alloc (.cells #[.int .i64 n, .slice a m c] 58)).alloc (.cells #[.int .i64 n', .slice a' m' c'] 58)) = w1 at *
  clear hw1
  go_loopw [5, 6] (fun j z wr => ∃ i : Nat, j = .int .i64 (i : Int) ∧ i ≤ m ∧ way (P.take i) Q = false ∧ Below w1.heap.size w1 wr) (fun j _ _ => m - (intOf j).toNat)
  case atStart => exact ⟨0, rfl, Nat.zero_le _, by rw [List.take_zero]; rfl, Below.refl _ _⟩
  case round =>
    obtain ⟨i, rfl, hi, hw0, hb⟩ := hrel
    have HW := hide hw0
    have HR := hide hb
    have c1 := keepC hb (Nat.le_refl _) q1
    clear hw0 hb
    by_cases hlt : i < m
    · have hex : ∃ p, P[i]? = some p := ⟨P[i]'(by rw [HPl.out]; exact hlt), List.getElem?_eq_getElem (by rw [HPl.out]; exact hlt)⟩
      obtain ⟨p, hpi⟩ := hex
      have hp2 := H1.out p (List.mem_of_getElem? hpi)
      have HPi := hide hpi
      have ea := HA.out (by omega)
      subst ea
      clear hpi
      have d1 : decide ((i : Int) < (m : Int)) = true := by simpa using hlt
      have i1 : (0 : Int) ≤ (i : Int) := by omega
      have i2 : (i : Int) < (m : Int) := by omega
      go_wp2_with fail
      clear d1 c1
      go_loopw [6] (fun j wq => ∃ x : Nat, j = .int .i64 (x : Int) ∧ x ≤ m' ∧ hit p (Q.take x) = false ∧ Below w1.heap.size w1 wq) (fun j _ => m' - (intOf j).toNat)
      case atStart => exact ⟨0, rfl, Nat.zero_le _, by rw [List.take_zero]; rfl, HR.out⟩
      case round =>
        clear HR
        obtain ⟨x, rfl, hx, hh0, hb⟩ := hrel
        have HH := hide hh0
        have HR := hide hb
        have c2 := keepC hb (Nat.le_refl _) q2
        clear hh0 hb
        by_cases hlx : x < m'
        · have hex2 : ∃ q, Q[x]? = some q := ⟨Q[x]'(by rw [HQl.out]; exact hlx), List.getElem?_eq_getElem (by rw [HQl.out]; exact hlx)⟩
          obtain ⟨q, hqi⟩ := hex2
          have hq3 := H2.out q (List.mem_of_getElem? hqi)
          have HQi := hide hqi
          have ea := HA'.out (by omega)
          subst ea
          have HF := hide (fun (u : World) (hu : Below w1.heap.size w1 u) => (⟨keepC hu (Nat.le_refl _) q1, keepC hu (Nat.le_refl _) q2, keepC hu (Nat.le_refl _) (HC.out i p HPi.out), keepC hu (Nat.le_refl _) (HC'.out x q hqi)⟩ : _ ∧ _ ∧ _ ∧ _))
          clear hqi
          have d2 : decide ((x : Int) < (m' : Int)) = true := by simpa using hlx
          have j1 : (0 : Int) ≤ (x : Int) := by omega
          have j2 : (x : Int) < (m' : Int) := by omega
          have heq := eq_texts p q
          have HCl := hide (fun u : World => refClash_c p q u (by omega) (by omega))
          have hans : way P Q = true ∧ hits p q = true ∨ hits p q = false ∧ hit p (Q.take (x + 1)) = false := by
            cases hh : hits p q with
            | true => exact .inl ⟨way_in HPi.out (hit_in HQi.out hh), rfl⟩
            | false => exact .inr ⟨rfl, by rw [hit_take HQi.out, HH.out, hh]; rfl⟩
          have HAns := hide hans
          clear hans
          obtain ⟨z, hz⟩ : ∃ z, z = hits p q := ⟨_, rfl⟩
          rw [← hz] at HAns
          obtain ⟨e0, he0⟩ : ∃ e0, e0 = decide (p = q) := ⟨_, rfl⟩
          obtain ⟨k0, hk0⟩ : ∃ k0, k0 = (pre p q || pre q p) := ⟨_, rfl⟩
          rw [← hk0] at HCl
          rw [← he0] at heq
          have hzz : z = (e0 || k0) := by rw [hz, he0, hk0]; rfl
          clear hz he0 hk0
          cases e0 with
          | true =>
            obtain rfl : z = true := by rw [hzz]; rfl
            clear hzz
            go_wp2_with fail
            refine wp_region_keep (fun u => Below w1.heap.size w1 u) (by kernel_rfl) (by kernel_rfl) HR.out.drew ?_
            repeat (first
              | (refine keep_step (v := ?_) (by rfl) (fun u K hS hK => ?_) ?_
                 rotate_left
                 · obtain ⟨f1, f2, f3, f4⟩ := HF.out u hS
                   (go_simp; first
                     | (go_at_call 73; (with_reducible refine Calls.mono (HCl.out u) ?_); rintro e u2 ⟨rfl, rfl⟩; exact hK _ hS)
                     | (with_reducible exact hK _ hS))
                 simp only [Act.put, List.setIfInBounds_toArray, List.set_cons_zero, List.set_cons_succ])
              | (refine keep_not (by rfl) ?_
                 simp only [Act.put, List.setIfInBounds_toArray, List.set_cons_zero, List.set_cons_succ]))
            refine keep_nil (fun wA hA => ?_)
            have HBA := hide hA
            clear hA HR heq
            have HT : Hid (way P Q = true) := hide (by rcases HAns.out with h | h; exact h.1; cases h.1)
            go_wp2
            go_ret
            exact ⟨by rw [HT.out]; rfl, keepB HBA.out (Nat.le_refl _) HB.out⟩
          | false =>
            obtain rfl : z = k0 := by rw [hzz]; rfl
            clear hzz
            go_wp2_with fail
            refine wp_region_keep (fun u => Below w1.heap.size w1 u) (by kernel_rfl) (by kernel_rfl) HR.out.drew ?_
            repeat (first
              | (refine keep_step (v := ?_) (by rfl) (fun u K hS hK => ?_) ?_
                 rotate_left
                 · obtain ⟨f1, f2, f3, f4⟩ := HF.out u hS
                   (go_simp; first
                     | (go_at_call 73; (with_reducible refine Calls.mono (HCl.out u) ?_); rintro e u2 ⟨rfl, rfl⟩; exact hK _ hS)
                     | (with_reducible exact hK _ hS))
                 simp only [Act.put, List.setIfInBounds_toArray, List.set_cons_zero, List.set_cons_succ])
              | (refine keep_not (by rfl) ?_
                 simp only [Act.put, List.setIfInBounds_toArray, List.set_cons_zero, List.set_cons_succ]))
            refine keep_nil (fun wA hA => ?_)
            have HBA := hide hA
            clear hA HR heq
            cases z with
            | true =>
              have HT : Hid (way P Q = true) := hide (by rcases HAns.out with h | h; exact h.1; cases h.1)
              go_wp2
              go_ret
              exact ⟨by rw [HT.out]; rfl, keepB HBA.out (Nat.le_refl _) HB.out⟩
            | false =>
              have HT : Hid (hit p (Q.take (x + 1)) = false) := hide (by rcases HAns.out with h | h; cases h.2; exact h.2)
              go_wp2
              go_roundw
              case rel => exact ⟨x + 1, by go_num, by omega, HT.out, HBA.out⟩
              case measure => simp [intOf]; omega
        · obtain rfl : x = m' := by omega
          have d2 : decide ((x : Int) < (x : Int)) = false := by simp
          have HW2 : Hid (way (P.take (i + 1)) Q = false) := hide (by
            rw [way_take HPi.out, HW.out]
            have := HH.out
            rw [List.take_of_length_le (by rw [HQl.out]; exact Nat.le_refl _)] at this
            rw [this]
            rfl)
          clear HW HH
          go_wp2
          go_roundw
          case rel => exact ⟨i + 1, by go_num, by omega, HW2.out, HR.out⟩
          case measure => simp [intOf]; omega
    · obtain rfl : i = m := by omega
      have d1 : decide ((i : Int) < (i : Int)) = false := by simp
      have HT : Hid (way P Q = false) := hide (by
        have := HW.out
        rwa [List.take_of_length_le (by rw [HPl.out]; exact Nat.le_refl _)] at this)
      go_wp2
      go_ret
      exact ⟨by rw [HT.out]; rfl, keepB HR.out (Nat.le_refl _) HB.out⟩
theorem hits_comm (p q : List UInt8) : hits p q = hits q p := by
  unfold hits
  rw [Bool.or_comm (pre p q)]
  by_cases h : p = q
  · subst h; rfl
  · rw [decide_eq_false h, decide_eq_false (fun e => h e.symm)]
theorem way_comm (P Q : List (List UInt8)) : way P Q = way Q P := by
  unfold way hit
  rw [Bool.eq_iff_iff, List.any_eq_true, List.any_eq_true]
  constructor
  · rintro ⟨p, hp, h⟩
    obtain ⟨q, hq, h⟩ := List.any_eq_true.1 h
    exact ⟨q, hq, List.any_eq_true.2 ⟨p, hp, by rw [hits_comm]; exact h⟩⟩
  · rintro ⟨q, hq, h⟩
    obtain ⟨p, hp, h⟩ := List.any_eq_true.1 h
    exact ⟨p, hp, List.any_eq_true.2 ⟨q, hq, by rw [hits_comm]; exact h⟩⟩
/-- Texts that are no longer than the law lets them be. -/
def Few (Ts : List (List (List UInt8))) : Prop := ∀ t ∈ Ts, ∀ p ∈ t, p.length ≤ 200
set_option maxHeartbeats 3200000 in
theorem rhas_c (a : Option Addr) (m c i : Nat) (us : List La.Ask) (Ts : List (List (List UInt8))) (t : List (List UInt8)) (w : World) (hu : IsAs w a m c us) (ht : Txs w us Ts) (hi : Ts[i]? = some t) (hf : Few Ts) :
    Calls Tryd.prog 23 #[.slice a m c, .int .i64 (i : Int)] w fun e w' => e = .returned (.bool (!((Ts.take i).any (way t)))) ∧ Below w.heap.size w w' := by
  have hlen := hu.1
  have him : i < m := by
    have := (List.getElem?_eq_some_iff.1 hi).1
    rw [ht.1, hlen] at this
    exact this
  have hex : ∃ u, us[i]? = some u := ⟨us[i]'(by rw [hlen]; exact him), by rw [List.getElem?_eq_getElem]⟩
  obtain ⟨u0, hui⟩ := hex
  have HT := hide (ht.2 i u0 t hui hi)
  have HTx := hide ht
  have HTi := hide hi
  have HFw := hide hf
  have HL := hide hlen
  obtain ⟨-, hmc, hcm, g, off, ha, hcell⟩ := hu
  obtain rfl := ha (by omega)
  have HC := hide (fun (k : Nat) (u1 : La.Ask) (hk : us[k]? = some u1) (u : World) (hb : Below w.heap.size w u) => (⟨keepC hb (Nat.le_refl _) (hcell k u1 hk).1, keepC hb (Nat.le_refl _) (hcell k u1 hk).2⟩ : _ ∧ _))
  have HI := hide (fun (u : World) (hb : Below w.heap.size w u) => HC.out i u0 hui u hb)
  obtain ⟨nn, aa, mm, cc⟩ := u0
  unfold pv at HI
  have i1 : (0 : Int) ≤ (i : Int) := by omega
  have i2 : (i : Int) < (m : Int) := by omega
  clear hcell hui hi ht hf ha hlen
  go_enter Tryd.func23, Tryd.ntmps23
  go_wp2_with fail
  go_loopw [5] (fun j wr => ∃ k : Nat, j = .int .i64 (k : Int) ∧ k ≤ i ∧ Hid ((Ts.take k).any (way t) = false) ∧ Below w.heap.size w wr) (fun j _ => i - (intOf j).toNat)
  case atStart => exact ⟨0, rfl, Nat.zero_le _, (show (Ts.take 0).any (way t) = false from rfl), Below.refl _ _⟩
  case round =>
    obtain ⟨k, rfl, hk, HN, hb⟩ := hrel
    have HB := hide hb
    clear hb
    by_cases hlt : k < i
    · have hex : ∃ u, us[k]? = some u := ⟨us[k]'(by rw [HL.out]; omega), by rw [List.getElem?_eq_getElem]⟩
      obtain ⟨u1, huk⟩ := hex
      have hex : ∃ t1, Ts[k]? = some t1 := ⟨Ts[k]'(by rw [HTx.out.1, HL.out]; omega), by rw [List.getElem?_eq_getElem]⟩
      obtain ⟨t1, htk⟩ := hex
      have HK := hide (fun (u : World) (hb : Below w.heap.size w u) => HC.out k u1 huk u hb)
      have HT1 := hide (HTx.out.2 k u1 t1 huk htk)
      have HTk := hide htk
      obtain ⟨n1, a1, m1, c1⟩ := u1
      unfold pv at HK
      clear huk htk
      obtain ⟨z, hz⟩ : ∃ z, z = way t1 t := ⟨_, rfl⟩
      have HM := hide (fun (u : World) (hb : Below w.heap.size w u) => rmeet_c n1 nn a1 aa m1 c1 mm cc t1 t u (HT1.out.1.below hb) HT1.out.2.1 HT1.out.2.2.1 HT1.out.2.2.2 (HT.out.1.below hb) HT.out.2.1 HT.out.2.2.1 HT.out.2.2.2 (HFw.out t1 (List.mem_of_getElem? HTk.out)) (HFw.out t (List.mem_of_getElem? HTi.out)))
      rw [← hz] at HM
      have HZ := hide hz
      clear hz
      have d1 : decide ((k : Int) < (i : Int)) = true := by simpa using hlt
      have k1 : (0 : Int) ≤ (k : Int) := by omega
      have k2 : (k : Int) < (m : Int) := by omega
      go_wp2_with fail
      refine wp_region_keep (fun u => Below w.heap.size w u) (by kernel_rfl) (by kernel_rfl) HB.out.drew ?_
      repeat (first
        | (refine keep_step (v := ?_) (by rfl) (fun u K hS hK => ?_) ?_
           rotate_left
           · obtain ⟨f1, f2⟩ := HI.out u hS
             obtain ⟨f3, f4⟩ := HK.out u hS
             (go_simp; first
               | (go_at_call 46; (with_reducible refine Calls.mono (HM.out u hS) ?_); rintro e u2 ⟨rfl, hb2⟩; exact hK _ (keepB hb2 (Nat.le_refl _) hS))
               | (with_reducible exact hK _ hS))
           simp only [Act.put, List.setIfInBounds_toArray, List.set_cons_zero, List.set_cons_succ])
        | (refine keep_not (by rfl) ?_
           simp only [Act.put, List.setIfInBounds_toArray, List.set_cons_zero, List.set_cons_succ]))
      refine keep_nil (fun wA hA => ?_)
      have HBA := hide hA
      clear hA HB
      cases z with
      | true =>
        have HTr : Hid ((Ts.take i).any (way t) = true) := hide (List.any_eq_true.2 ⟨t1, by
          rw [List.mem_take_iff_getElem]
          obtain ⟨hkl, he⟩ := List.getElem?_eq_some_iff.1 HTk.out
          exact ⟨k, by omega, he⟩, by rw [way_comm]; exact HZ.out.symm⟩)
        go_wp2
        go_ret
        exact ⟨by rw [HTr.out]; rfl, HBA.out⟩
      | false =>
        have HNx : Hid ((Ts.take (k + 1)).any (way t) = false) := hide (by
          rw [List.take_add_one, HTk.out, List.any_append, HN.out]
          show (false || (way t t1 || false)) = false
          rw [way_comm, ← HZ.out]; rfl)
        clear HN
        go_wp2
        go_roundw
        case rel => exact ⟨k + 1, by go_num, by omega, HNx, HBA.out⟩
        case measure => simp [intOf]; omega
    · obtain rfl : k = i := by omega
      have d1 : decide ((k : Int) < (k : Int)) = false := by simp
      go_wp2
      go_ret
      exact ⟨by rw [HN.out]; rfl, HB.out⟩
end Go.Proofs.YtlhjkacdhfchiaaDoor.Na
