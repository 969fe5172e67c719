/- Reference 06's Check. -/
import Derived.Test.YtifepgigkmhdaaaDoorPg
namespace Go.Proofs.YtifepgigkmhdaaaDoor.Kx
set_option linter.unusedVariables false
set_option linter.unusedSimpArgs false
set_option maxRecDepth 100000
open Go.ChangeShapes Go.WideShapes Go.ChangeAt Go.RowKit
open Go.Proofs.YtifepgigkmhdaaaDoor.Wu Go.Proofs.YtifepgigkmhdaaaDoor.Sm Go.Proofs.YtifepgigkmhdaaaDoor.Sh Go.Proofs.YtifepgigkmhdaaaDoor.Ba Go.Proofs.YtifepgigkmhdaaaDoor.Bp Go.Proofs.YtifepgigkmhdaaaDoor.Ka Go.Proofs.YtifepgigkmhdaaaDoor.Kb Go.Proofs.YtifepgigkmhdaaaDoor.Kc Go.Proofs.YtifepgigkmhdaaaDoor.Kd Go.Proofs.YtifepgigkmhdaaaDoor.Ke Go.Proofs.YtifepgigkmhdaaaDoor.Rk Go.Proofs.YtifepgigkmhdaaaDoor.Kh
open Go.Proofs.YtifepgigkmhdaaaDoor.Su (cutL Cnt cutL_length)
set_option maxHeartbeats 1600000 in
theorem rc_bad (w : World) (sz cut len : Int) (a : Option Addr) (m c : Nat) (bs : List Blk) (hl : len ≤ 9223372036854775807) (h : fitsE sz cut len ≠ 0) :
    Calls Tryd.prog 27 #[sigV sz cut len (.slice a m c)] w fun e w' => e = .returned (.int .i64 (checkE sz cut len bs)) ∧ Below w.heap.size w w' := by
  have HC := hide (fun u : World => refcount_c u len sz hl)
  clear hl
  unfold checkE
  rw [if_pos h]
  revert h
  unfold fitsE sigV
  by_cases h1 : sz < 1
  · rw [if_pos (.inl h1)]
    intro _
    have d1 : decide (sz < 1) = true := by simpa using h1
    clear h1
    go_enter Tryd.func27, Tryd.ntmps27
    go_wp2
    go_ret
    exact ⟨rfl, below_new _ _⟩
  have d1 : decide (sz < 1) = false := by simpa using h1
  by_cases h2 : 4096 < sz
  · rw [if_pos (.inr (.inl h2))]
    intro _
    have d2 : decide (4096 < sz) = true := by simpa using h2
    clear h1 h2
    go_enter Tryd.func27, Tryd.ntmps27
    go_wp2
    go_ret
    exact ⟨rfl, below_new _ _⟩
  have d2 : decide (4096 < sz) = false := by simpa using h2
  by_cases h3 : cut < 0
  · rw [if_pos (.inr (.inr (.inl h3)))]
    intro _
    have d3 : decide (cut < 0) = true := by simpa using h3
    clear h1 h2 h3
    go_enter Tryd.func27, Tryd.ntmps27
    go_wp2
    go_ret
    exact ⟨rfl, below_new _ _⟩
  have d3 : decide (cut < 0) = false := by simpa using h3
  by_cases h4 : 32 < cut
  · rw [if_pos (.inr (.inr (.inr (.inl h4))))]
    intro _
    have d4 : decide (32 < cut) = true := by simpa using h4
    clear h1 h2 h3 h4
    go_enter Tryd.func27, Tryd.ntmps27
    go_wp2
    go_ret
    exact ⟨rfl, below_new _ _⟩
  have d4 : decide (32 < cut) = false := by simpa using h4
  by_cases h5 : len < 0
  · rw [if_pos (.inr (.inr (.inr (.inr h5))))]
    intro _
    have d5 : decide (len < 0) = true := by simpa using h5
    clear h1 h2 h3 h4 h5
    go_enter Tryd.func27, Tryd.ntmps27
    go_wp2
    go_ret
    exact ⟨rfl, below_new _ _⟩
  have d5 : decide (len < 0) = false := by simpa using h5
  rw [if_neg (by omega)]
  clear h1 h2 h3 h4 h5
  generalize cntZ len sz = n at *
  by_cases h6 : 4096 < n
  · rw [if_pos h6]
    intro _
    have d6 : decide (4096 < n) = true := by simpa using h6
    clear h6
    go_enter Tryd.func27, Tryd.ntmps27
    go_wp2_with fail
    refine (HC.out _).mono ?_
    rintro e w1 ⟨rfl, rfl⟩
    go_wp2
    go_ret
    exact ⟨rfl, below_new _ _⟩
  · rw [if_neg h6]
    intro h
    exact absurd rfl h
/-- What a signature that fits is asked. -/
theorem fits_dec {sz cut len : Int} (h : fitsE sz cut len = 0) : decide (sz < 1) = false ∧ decide (4096 < sz) = false ∧ decide (cut < 0) = false ∧ decide (32 < cut) = false ∧ decide (len < 0) = false ∧ decide (4096 < cntZ len sz) = false := by
  have hz := fitsE_zero h
  refine ⟨?_, ?_, ?_, ?_, ?_, ?_⟩ <;> (rw [decide_eq_false_iff_not]; omega)
theorem rc_len (w : World) (sz cut len : Int) (a : Option Addr) (m c : Nat) (bs : List Blk) (hm : m = bs.length) (hl : len ≤ 9223372036854775807) (h : fitsE sz cut len = 0) (hn : (m : Int) ≠ cntZ len sz) :
    Calls Tryd.prog 27 #[sigV sz cut len (.slice a m c)] w fun e w' => e = .returned (.int .i64 (checkE sz cut len bs)) ∧ Below w.heap.size w w' := by
  unfold checkE
  rw [if_neg (by rw [h]; simp), if_pos (by rw [← hm]; exact hn)]
  clear hm
  have HC := hide (fun u : World => refcount_c u len sz hl)
  obtain ⟨d1, d2, d3, d4, d5, d6⟩ := fits_dec h
  generalize cntZ len sz = n at *
  have e1 : ((m : Int) != n) = true := by simpa using hn
  clear h hl hn
  unfold sigV
  go_enter Tryd.func27, Tryd.ntmps27
  go_wp2_with fail
  refine (HC.out _).mono ?_
  rintro e w1 ⟨rfl, rfl⟩
  go_wp2
  go_ret
  exact ⟨rfl, below_new _ _⟩
theorem clean_iff {b : Blk} {k : Nat} (h : b.ok) (hk : k ≤ 32) : Blk.clean k b ↔ ∀ j, k ≤ j → j < 32 → b.s.getD j 0 = 0 := by
  unfold Blk.clean
  have hl := h.2.1
  constructor
  · intro e j h1 h2
    rw [e]
    unfold cutL
    rw [List.getD_eq_getElem?_getD, List.getElem?_append_right (by rw [List.length_take]; omega), List.length_take, hl, Nat.min_eq_left hk]
    unfold Go.Proofs.YtifepgigkmhdaaaDoor.Sxa.zeros
    rw [List.getElem?_replicate]
    split <;> rfl
  · intro e
    apply List.ext_getElem?
    intro j
    unfold cutL
    by_cases hj : j < 32
    · by_cases hjk : j < k
      · rw [List.getElem?_append_left (by rw [List.length_take]; omega), List.getElem?_take_of_lt hjk]
      · rw [List.getElem?_append_right (by rw [List.length_take]; omega), List.length_take, hl, Nat.min_eq_left hk]
        unfold Go.Proofs.YtifepgigkmhdaaaDoor.Sxa.zeros
        rw [List.getElem?_replicate, if_pos (by omega)]
        have := e j (by omega) hj
        rw [List.getD_eq_getElem?_getD, List.getElem?_eq_getElem (by omega)] at this
        rw [List.getElem?_eq_getElem (by omega)]
        simpa using this
    · rw [List.getElem?_eq_none (by omega), List.getElem?_eq_none (by simp [Go.Proofs.YtifepgigkmhdaaaDoor.Sxa.zeros]; omega)]
set_option maxHeartbeats 3200000 in
theorem rc_full (w : World) (sz len : Int) (k : Nat) (a : Option Addr) (m c : Nat) (bs : List Blk) (hb : IsBks .i64 w (.slice a m c) bs) (hml : m = bs.length) (h : fitsE sz k len = 0) (hn : cntZ len sz = (m : Int)) :
    Calls Tryd.prog 27 #[sigV sz k len (.slice a m c)] w fun e w' => e = .returned (.int .i64 (checkE sz k len bs)) ∧ Below w.heap.size w w' := by
  have hz := fitsE_zero h
  have hk : k ≤ 32 := by omega
  have hl : len ≤ 9223372036854775807 := by omega
  have hm4 : m ≤ 4096 := by omega
  unfold checkE
  rw [if_neg (by rw [h]; simp), if_neg (by rw [← hml, hn]; simp)]
  obtain ⟨d1, d2, d3, d4, d5, d6⟩ := fits_dec h
  have HC := hide (fun u : World => refcount_c u len sz hl)
  have HB := hide (below_new w (.cells #[.int .i64 sz, .int .i64 (k : Int), .int .i64 len, .slice a m c] 56))
  have HS := hide (heap_last w (.cells #[.int .i64 sz, .int .i64 (k : Int), .int .i64 len, .slice a m c] 56))
  rw [hn] at HC d6
  obtain ⟨a', c', g, off, hv, hmc, hcm, ha, hat⟩ := (hb.below (below_new w (.cells #[.int .i64 sz, .int .i64 (k : Int), .int .i64 len, .slice a m c] 56))).at
  rw [← hml] at hv hmc ha
  injection hv with h1 h2 h3
  subst h1 h3
  have Hat := hide hat
  have HML := hide hml
  have e1 : ((m : Int) != (m : Int)) = false := by simp
  rw [Int.toNat_natCast]
  obtain ⟨R, hR⟩ : ∃ R : Int, R = if ∀ b ∈ bs, Blk.clean k b then 0 else 31 := ⟨_, rfl⟩
  rw [← hR]
  have HRv := hide hR
  clear hR
  clear h hz hn hat hml h2 hb
  unfold sigV
  go_enter Tryd.func27, Tryd.ntmps27
  go_wp2_with fail
  generalize (w.alloc (.cells #[.int .i64 sz, .int .i64 (k : Int), .int .i64 len, .slice a m c] 56)) = w1 at *
  refine (HC.out _).mono ?_
  rintro e w2 ⟨rfl, rfl⟩
  clear HC
  obtain ⟨c0, c1, c2, c3⟩ := Sig4.cells (T := 56) HS.out
  go_wp2_with fail
  clear d1 d2 d3 d4 d5 d6 e1
  go_loopw [4] (fun j wr => ∃ i, j = .int .i64 ((i : Nat) : Int) ∧ i ≤ m ∧ (∀ b ∈ bs.take i, Blk.clean k b) ∧ wr = w1) (fun j _ => m - (intOf j).toNat)
  case atStart => exact ⟨0, rfl, Nat.zero_le _, by simp, rfl⟩
  case round =>
    obtain ⟨i, rfl, hi, hcl, rfl⟩ := hrel
    have HCl := hide hcl
    clear hcl
    by_cases hlt : i < m
    · obtain ⟨b, hb⟩ : ∃ b, bs[i]? = some b := ⟨bs[i]'(by rw [← HML.out]; exact hlt), by rw [List.getElem?_eq_getElem]⟩
      obtain ⟨hbok, hr0⟩ := Hat.out i b hb
      have ha1 := ha (by omega)
      subst ha1
      have hbl := hbok.2.1
      have Hci := hide (clean_iff hbok hk)
      have Hb := hide hb
      have HR : Hid (∀ j, j < 32 → wr.cell? ⟨g, off + i * 33 + 1 + j, none⟩ = some (.int .u8 ((b.s.getD j 0 : Nat) : Int))) := hide (fun j hj => by
        have h1 := hr0 (1 + j) (.int .u8 ((b.s.getD j 0 : Nat) : Int)) (by
          unfold blkC
          rw [Nat.add_comm, List.getElem?_cons_succ]
          unfold b8
          rw [List.getElem?_map, List.getElem?_eq_getElem (by omega)]
          simp [List.getD, show j < b.s.length by omega])
        rw [Nat.add_assoc]
        exact h1)
      clear hr0 hb ha
      have d1 : decide ((i : Int) < (m : Int)) = true := by simpa using hlt
      have i1 : (0 : Int) ≤ (i : Int) := by omega
      have i2 : (i : Int) < (m : Int) := by omega
      go_wp2_with fail
      clear d1
      go_loopw [5] (fun q wq => ∃ j : Nat, q = .int .i64 (j : Int) ∧ k ≤ j ∧ j ≤ 32 ∧ (∀ x, k ≤ x → x < j → b.s.getD x 0 = 0) ∧ wq = wr) (fun q _ => 32 - (intOf q).toNat)
      case atStart => exact ⟨k, rfl, Nat.le_refl _, hk, (fun x h1 h2 => absurd h1 (by omega)), rfl⟩
      case round =>
        obtain ⟨j, rfl, hj1, hj2, hz0, rfl⟩ := hrel
        have HZ := hide hz0
        clear hz0
        by_cases hj : j < 32
        · have cj := HR.out j hj
          have d2 : decide ((j : Int) < 32) = true := by simp; omega
          have d2' : decide (j < 32) = true := by simpa using hj
          have j1 : (0 : Int) ≤ (j : Int) := by omega
          have j2 : (j : Int) < 32 := by omega
          by_cases hx : b.s.getD j 0 = 0
          · have HZ2 : Hid (∀ x, k ≤ x → x < j + 1 → b.s.getD x 0 = 0) := hide (fun x h1 h2 => by
              by_cases hxj : x = j
              · rw [hxj]; exact hx
              · exact HZ.out x h1 (by omega))
            rw [hx] at cj
            clear hx HZ
            go_wp2
            go_roundw
            case rel => exact ⟨j + 1, by go_num, by omega, by omega, HZ2.out, trivial⟩
            case measure => simp [intOf]; omega
          · have hR : R = 31 := by
              rw [HRv.out, if_neg]
              intro hall
              exact hx (Hci.out.1 (hall b (List.mem_of_getElem? Hb.out)) j hj1 hj)
            subst hR
            have d3 : (((b.s.getD j 0 : Nat) : Int) != 0) = true := by simpa using hx
            clear hx
            generalize b.s.getD j 0 = old at *
            go_wp2
            go_ret
            exact ⟨rfl, HB.out⟩
        · obtain rfl : j = 32 := by omega
          have d2 : decide ((32 : Int) < 32) = false := by decide
          have HCl2 : Hid (∀ x ∈ bs.take (i + 1), Blk.clean k x) := hide (by
            rw [List.take_add_one, Hb.out]
            intro x hx
            rcases List.mem_append.1 hx with hx | hx
            · exact HCl.out x hx
            · simp at hx
              rw [hx]
              exact Hci.out.2 HZ.out)
          clear HZ HCl
          go_wp2
          go_roundw
          case rel => exact ⟨i + 1, by go_num, by omega, HCl2.out, trivial⟩
          case measure => simp [intOf]; omega
    · obtain rfl : i = m := by omega
      have d1 : decide ((i : Int) < (i : Int)) = false := by simp
      have hR : R = 0 := by
        rw [HRv.out, if_pos]
        have := HCl.out
        rwa [List.take_of_length_le (by rw [← HML.out]; exact Nat.le_refl _)] at this
      subst hR
      go_wp2
      go_ret
      exact ⟨rfl, HB.out⟩
theorem rc_any (w : World) (sz cut len : Int) (a : Option Addr) (m c : Nat) (bs : List Blk) (hb : IsBks .i64 w (.slice a m c) bs) (hm : bs.length = m) (hl : len ≤ 9223372036854775807) :
    Calls Tryd.prog 27 #[sigV sz cut len (.slice a m c)] w fun e w' => e = .returned (.int .i64 (checkE sz cut len bs)) ∧ Below w.heap.size w w' := by
  by_cases h : fitsE sz cut len = 0
  · by_cases hn : (m : Int) = cntZ len sz
    · have hz := fitsE_zero h
      obtain ⟨k, rfl⟩ := Int.eq_ofNat_of_zero_le (show 0 ≤ cut by omega)
      exact rc_full w sz len k a m c bs hb hm.symm h hn.symm
    · exact rc_len w sz cut len a m c bs hm.symm hl h hn
  · exact rc_bad w sz cut len a m c bs hl h
end Go.Proofs.YtifepgigkmhdaaaDoor.Kx
