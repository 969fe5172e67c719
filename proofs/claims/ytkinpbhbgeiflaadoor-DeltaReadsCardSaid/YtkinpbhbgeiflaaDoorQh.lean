/- Several texts, one behind the other. -/
import Derived.Test.YtkinpbhbgeiflaaDoorQf
import Derived.Test.YtkinpbhbgeiflaaDoorQa
import Derived.Test.YtkinpbhbgeiflaaDoorQg
import Derived.Maps.AppendAt
import Derived.Test.YtkinpbhbgeiflaaDoorQe
/- Reference 06's Check. -/
namespace Go.Proofs.YtkinpbhbgeiflaaDoor.Kx
set_option linter.unusedVariables false
set_option linter.unusedSimpArgs false
set_option maxRecDepth 100000
open Go.ChangeShapes Go.WideShapes Go.ChangeAt Go.RowKit
open Go.Proofs.YtkinpbhbgeiflaaDoor.Wu Go.Proofs.YtkinpbhbgeiflaaDoor.Sm Go.Proofs.YtkinpbhbgeiflaaDoor.Sh Go.Proofs.YtkinpbhbgeiflaaDoor.Ba Go.Proofs.YtkinpbhbgeiflaaDoor.Bp Go.Proofs.YtkinpbhbgeiflaaDoor.Ka Go.Proofs.YtkinpbhbgeiflaaDoor.Kb Go.Proofs.YtkinpbhbgeiflaaDoor.Kc Go.Proofs.YtkinpbhbgeiflaaDoor.Kd Go.Proofs.YtkinpbhbgeiflaaDoor.Ke Go.Proofs.YtkinpbhbgeiflaaDoor.Rk Go.Proofs.YtkinpbhbgeiflaaDoor.Kh
open Go.Proofs.YtkinpbhbgeiflaaDoor.Su (cutL Cnt cutL_length)
set_option maxHeartbeats 1600000 in
theorem rc_bad (w : World) (sz cut len : Int) (a : Option Addr) (m c : Nat) (bs : List Blk) (hl : len ≤ 9223372036854775807) (h : fitsE sz cut len ≠ 0) :
    Calls Tryd.prog 56 #[sigV sz cut len (.slice a m c)] w fun e w' => e = .returned (.int .i64 (checkE sz cut len bs)) ∧ Below w.heap.size w w' := by
  have HC := hide (fun u : World => refcount_c u len sz hl)
  clear hl
  unfold checkE
  rw [if_pos h]
  revert h
  unfold fitsE sigV
  by_cases h1 : sz < 1
  · rw [if_pos (.inl h1)]
    intro _
    have d1 : decide (sz < 1) = true := by simpa using h1
    clear h1
    go_enter Tryd.func56, Tryd.ntmps56
    go_wp2
    go_ret
    exact ⟨rfl, below_new _ _⟩
  have d1 : decide (sz < 1) = false := by simpa using h1
  by_cases h2 : 4096 < sz
  · rw [if_pos (.inr (.inl h2))]
    intro _
    have d2 : decide (4096 < sz) = true := by simpa using h2
    clear h1 h2
    go_enter Tryd.func56, Tryd.ntmps56
    go_wp2
    go_ret
    exact ⟨rfl, below_new _ _⟩
  have d2 : decide (4096 < sz) = false := by simpa using h2
  by_cases h3 : cut < 0
  · rw [if_pos (.inr (.inr (.inl h3)))]
    intro _
    have d3 : decide (cut < 0) = true := by simpa using h3
    clear h1 h2 h3
    go_enter Tryd.func56, Tryd.ntmps56
    go_wp2
    go_ret
    exact ⟨rfl, below_new _ _⟩
  have d3 : decide (cut < 0) = false := by simpa using h3
  by_cases h4 : 32 < cut
  · rw [if_pos (.inr (.inr (.inr (.inl h4))))]
    intro _
    have d4 : decide (32 < cut) = true := by simpa using h4
    clear h1 h2 h3 h4
    go_enter Tryd.func56, Tryd.ntmps56
    go_wp2
    go_ret
    exact ⟨rfl, below_new _ _⟩
  have d4 : decide (32 < cut) = false := by simpa using h4
  by_cases h5 : len < 0
  · rw [if_pos (.inr (.inr (.inr (.inr h5))))]
    intro _
    have d5 : decide (len < 0) = true := by simpa using h5
    clear h1 h2 h3 h4 h5
    go_enter Tryd.func56, Tryd.ntmps56
    go_wp2
    go_ret
    exact ⟨rfl, below_new _ _⟩
  have d5 : decide (len < 0) = false := by simpa using h5
  rw [if_neg (by omega)]
  clear h1 h2 h3 h4 h5
  generalize cntZ len sz = n at *
  by_cases h6 : 4096 < n
  · rw [if_pos h6]
    intro _
    have d6 : decide (4096 < n) = true := by simpa using h6
    clear h6
    go_enter Tryd.func56, Tryd.ntmps56
    go_wp2_with fail
    refine (HC.out _).mono ?_
    rintro e w1 ⟨rfl, rfl⟩
    go_wp2
    go_ret
    exact ⟨rfl, below_new _ _⟩
  · rw [if_neg h6]
    intro h
    exact absurd rfl h
/-- What a signature that fits is asked. -/
theorem fits_dec {sz cut len : Int} (h : fitsE sz cut len = 0) : decide (sz < 1) = false ∧ decide (4096 < sz) = false ∧ decide (cut < 0) = false ∧ decide (32 < cut) = false ∧ decide (len < 0) = false ∧ decide (4096 < cntZ len sz) = false := by
  have hz := fitsE_zero h
  refine ⟨?_, ?_, ?_, ?_, ?_, ?_⟩ <;> (rw [decide_eq_false_iff_not]; omega)
theorem rc_len (w : World) (sz cut len : Int) (a : Option Addr) (m c : Nat) (bs : List Blk) (hm : m = bs.length) (hl : len ≤ 9223372036854775807) (h : fitsE sz cut len = 0) (hn : (m : Int) ≠ cntZ len sz) :
    Calls Tryd.prog 56 #[sigV sz cut len (.slice a m c)] w fun e w' => e = .returned (.int .i64 (checkE sz cut len bs)) ∧ Below w.heap.size w w' := by
  unfold checkE
  rw [if_neg (by rw [h]; simp), if_pos (by rw [← hm]; exact hn)]
  clear hm
  have HC := hide (fun u : World => refcount_c u len sz hl)
  obtain ⟨d1, d2, d3, d4, d5, d6⟩ := fits_dec h
  generalize cntZ len sz = n at *
  have e1 : ((m : Int) != n) = true := by simpa using hn
  clear h hl hn
  unfold sigV
  go_enter Tryd.func56, Tryd.ntmps56
  go_wp2_with fail
  refine (HC.out _).mono ?_
  rintro e w1 ⟨rfl, rfl⟩
  go_wp2
  go_ret
  exact ⟨rfl, below_new _ _⟩
theorem clean_iff {b : Blk} {k : Nat} (h : b.ok) (hk : k ≤ 32) : Blk.clean k b ↔ ∀ j, k ≤ j → j < 32 → b.s.getD j 0 = 0 := by
  unfold Blk.clean
  have hl := h.2.1
  constructor
  · intro e j h1 h2
    rw [e]
    unfold cutL
    rw [List.getD_eq_getElem?_getD, List.getElem?_append_right (by rw [List.length_take]; omega), List.length_take, hl, Nat.min_eq_left hk]
    unfold Go.Proofs.YtkinpbhbgeiflaaDoor.Sxa.zeros
    rw [List.getElem?_replicate]
    split <;> rfl
  · intro e
    apply List.ext_getElem?
    intro j
    unfold cutL
    by_cases hj : j < 32
    · by_cases hjk : j < k
      · rw [List.getElem?_append_left (by rw [List.length_take]; omega), List.getElem?_take_of_lt hjk]
      · rw [List.getElem?_append_right (by rw [List.length_take]; omega), List.length_take, hl, Nat.min_eq_left hk]
        unfold Go.Proofs.YtkinpbhbgeiflaaDoor.Sxa.zeros
        rw [List.getElem?_replicate, if_pos (by omega)]
        have := e j (by omega) hj
        rw [List.getD_eq_getElem?_getD, List.getElem?_eq_getElem (by omega)] at this
        rw [List.getElem?_eq_getElem (by omega)]
        simpa using this
    · rw [List.getElem?_eq_none (by omega), List.getElem?_eq_none (by simp [Go.Proofs.YtkinpbhbgeiflaaDoor.Sxa.zeros]; omega)]
set_option maxHeartbeats 3200000 in
theorem rc_full (w : World) (sz len : Int) (k : Nat) (a : Option Addr) (m c : Nat) (bs : List Blk) (hb : IsBks .i64 w (.slice a m c) bs) (hml : m = bs.length) (h : fitsE sz k len = 0) (hn : cntZ len sz = (m : Int)) :
    Calls Tryd.prog 56 #[sigV sz k len (.slice a m c)] w fun e w' => e = .returned (.int .i64 (checkE sz k len bs)) ∧ Below w.heap.size w w' := by
  have hz := fitsE_zero h
  have hk : k ≤ 32 := by omega
  have hl : len ≤ 9223372036854775807 := by omega
  have hm4 : m ≤ 4096 := by omega
  unfold checkE
  rw [if_neg (by rw [h]; simp), if_neg (by rw [← hml, hn]; simp)]
  obtain ⟨d1, d2, d3, d4, d5, d6⟩ := fits_dec h
  have HC := hide (fun u : World => refcount_c u len sz hl)
  have HB := hide (below_new w (.cells #[.int .i64 sz, .int .i64 (k : Int), .int .i64 len, .slice a m c] 61))
  have HS := hide (heap_last w (.cells #[.int .i64 sz, .int .i64 (k : Int), .int .i64 len, .slice a m c] 61))
  rw [hn] at HC d6
  obtain ⟨a', c', g, off, hv, hmc, hcm, ha, hat⟩ := (hb.below (below_new w (.cells #[.int .i64 sz, .int .i64 (k : Int), .int .i64 len, .slice a m c] 61))).at
  rw [← hml] at hv hmc ha
  injection hv with h1 h2 h3
  subst h1 h3
  have Hat := hide hat
  have HML := hide hml
  have e1 : ((m : Int) != (m : Int)) = false := by simp
  rw [Int.toNat_natCast]
  obtain ⟨R, hR⟩ : ∃ R : Int, R = if ∀ b ∈ bs, Blk.clean k b then 0 else 31 := ⟨_, rfl⟩
  rw [← hR]
  have HRv := hide hR
  clear hR
  clear h hz hn hat hml h2 hb
  unfold sigV
  go_enter Tryd.func56, Tryd.ntmps56
  go_wp2_with fail
  generalize (w.alloc (.cells #[.int .i64 sz, .int .i64 (k : Int), .int .i64 len, .slice a m c] 61)) = w1 at *
  refine (HC.out _).mono ?_
  rintro e w2 ⟨rfl, rfl⟩
  clear HC
  obtain ⟨c0, c1, c2, c3⟩ := Sig4.cells (T := 61) HS.out
  go_wp2_with fail
  clear d1 d2 d3 d4 d5 d6 e1
  go_loopw [4] (fun j wr => ∃ i, j = .int .i64 ((i : Nat) : Int) ∧ i ≤ m ∧ (∀ b ∈ bs.take i, Blk.clean k b) ∧ wr = w1) (fun j _ => m - (intOf j).toNat)
  case atStart => exact ⟨0, rfl, Nat.zero_le _, by simp, rfl⟩
  case round =>
    obtain ⟨i, rfl, hi, hcl, rfl⟩ := hrel
    have HCl := hide hcl
    clear hcl
    by_cases hlt : i < m
    · obtain ⟨b, hb⟩ : ∃ b, bs[i]? = some b := ⟨bs[i]'(by rw [← HML.out]; exact hlt), by rw [List.getElem?_eq_getElem]⟩
      obtain ⟨hbok, hr0⟩ := Hat.out i b hb
      have ha1 := ha (by omega)
      subst ha1
      have hbl := hbok.2.1
      have Hci := hide (clean_iff hbok hk)
      have Hb := hide hb
      have HR : Hid (∀ j, j < 32 → wr.cell? ⟨g, off + i * 33 + 1 + j, none⟩ = some (.int .u8 ((b.s.getD j 0 : Nat) : Int))) := hide (fun j hj => by
        have h1 := hr0 (1 + j) (.int .u8 ((b.s.getD j 0 : Nat) : Int)) (by
          unfold blkC
          rw [Nat.add_comm, List.getElem?_cons_succ]
          unfold b8
          rw [List.getElem?_map, List.getElem?_eq_getElem (by omega)]
          simp [List.getD, show j < b.s.length by omega])
        rw [Nat.add_assoc]
        exact h1)
      clear hr0 hb ha
      have d1 : decide ((i : Int) < (m : Int)) = true := by simpa using hlt
      have i1 : (0 : Int) ≤ (i : Int) := by omega
      have i2 : (i : Int) < (m : Int) := by omega
      go_wp2_with fail
      clear d1
      go_loopw [5] (fun q wq => ∃ j : Nat, q = .int .i64 (j : Int) ∧ k ≤ j ∧ j ≤ 32 ∧ (∀ x, k ≤ x → x < j → b.s.getD x 0 = 0) ∧ wq = wr) (fun q _ => 32 - (intOf q).toNat)
      case atStart => exact ⟨k, rfl, Nat.le_refl _, hk, (fun x h1 h2 => absurd h1 (by omega)), rfl⟩
      case round =>
        obtain ⟨j, rfl, hj1, hj2, hz0, rfl⟩ := hrel
        have HZ := hide hz0
        clear hz0
        by_cases hj : j < 32
        · have cj := HR.out j hj
          have d2 : decide ((j : Int) < 32) = true := by simp; omega
          have d2' : decide (j < 32) = true := by simpa using hj
          have j1 : (0 : Int) ≤ (j : Int) := by omega
          have j2 : (j : Int) < 32 := by omega
          by_cases hx : b.s.getD j 0 = 0
          · have HZ2 : Hid (∀ x, k ≤ x → x < j + 1 → b.s.getD x 0 = 0) := hide (fun x h1 h2 => by
              by_cases hxj : x = j
              · rw [hxj]; exact hx
              · exact HZ.out x h1 (by omega))
            rw [hx] at cj
            clear hx HZ
            go_wp2
            go_roundw
            case rel => exact ⟨j + 1, by go_num, by omega, by omega, HZ2.out, trivial⟩
            case measure => simp [intOf]; omega
          · have hR : R = 31 := by
              rw [HRv.out, if_neg]
              intro hall
              exact hx (Hci.out.1 (hall b (List.mem_of_getElem? Hb.out)) j hj1 hj)
            subst hR
            have d3 : (((b.s.getD j 0 : Nat) : Int) != 0) = true := by simpa using hx
            clear hx
            generalize b.s.getD j 0 = old at *
            go_wp2
            go_ret
            exact ⟨rfl, HB.out⟩
        · obtain rfl : j = 32 := by omega
          have d2 : decide ((32 : Int) < 32) = false := by decide
          have HCl2 : Hid (∀ x ∈ bs.take (i + 1), Blk.clean k x) := hide (by
            rw [List.take_add_one, Hb.out]
            intro x hx
            rcases List.mem_append.1 hx with hx | hx
            · exact HCl.out x hx
            · simp at hx
              rw [hx]
              exact Hci.out.2 HZ.out)
          clear HZ HCl
          go_wp2
          go_roundw
          case rel => exact ⟨i + 1, by go_num, by omega, HCl2.out, trivial⟩
          case measure => simp [intOf]; omega
    · obtain rfl : i = m := by omega
      have d1 : decide ((i : Int) < (i : Int)) = false := by simp
      have hR : R = 0 := by
        rw [HRv.out, if_pos]
        have := HCl.out
        rwa [List.take_of_length_le (by rw [← HML.out]; exact Nat.le_refl _)] at this
      subst hR
      go_wp2
      go_ret
      exact ⟨rfl, HB.out⟩
theorem rc_any (w : World) (sz cut len : Int) (a : Option Addr) (m c : Nat) (bs : List Blk) (hb : IsBks .i64 w (.slice a m c) bs) (hm : bs.length = m) (hl : len ≤ 9223372036854775807) :
    Calls Tryd.prog 56 #[sigV sz cut len (.slice a m c)] w fun e w' => e = .returned (.int .i64 (checkE sz cut len bs)) ∧ Below w.heap.size w w' := by
  by_cases h : fitsE sz cut len = 0
  · by_cases hn : (m : Int) = cntZ len sz
    · have hz := fitsE_zero h
      obtain ⟨k, rfl⟩ := Int.eq_ofNat_of_zero_le (show 0 ≤ cut by omega)
      exact rc_full w sz len k a m c bs hb hm.symm h hn.symm
    · exact rc_len w sz cut len a m c bs hm.symm hl h hn
  · exact rc_bad w sz cut len a m c bs hl h
end Go.Proofs.YtkinpbhbgeiflaaDoor.Kx
/- Numbers as bytes: digits to the base 128. Plain numbers, nothing of the program. -/
namespace Go.Proofs.YtkinpbhbgeiflaaDoor.Cm
set_option linter.unusedVariables false
open Go.Proofs.YtkinpbhbgeiflaaDoor.Sm Go.Proofs.YtkinpbhbgeiflaaDoor.Sh
/-- A number's bytes. -/
def numL (n : Nat) : List Nat := if h : n < 128 then [n] else (n % 128 + 128) :: numL (n / 128)
termination_by n
decreasing_by omega
theorem numL_small (n : Nat) (h : n < 128) : numL n = [n] := by rw [numL, dif_pos h]
theorem numL_big (n : Nat) (h : ¬ n < 128) : numL n = (n % 128 + 128) :: numL (n / 128) := by rw [numL, dif_neg h]
theorem numL_all (n : Nat) : All8 (numL n) := by
  induction n using numL.induct with
  | case1 n h => rw [numL_small n h]; intro x hx; simp only [List.mem_singleton] at hx; omega
  | case2 n h ih =>
    rw [numL_big n h]
    intro x hx
    rcases List.mem_cons.1 hx with rfl | hx
    · omega
    · exact ih x hx
theorem numL_pos (n : Nat) : 0 < (numL n).length := by
  rw [numL]; split <;> simp
theorem numL_le (n : Nat) : (numL n).length ≤ n + 1 := by
  induction n using numL.induct with
  | case1 n h => rw [numL_small n h]; simp
  | case2 n h ih => rw [numL_big n h, List.length_cons]; omega
theorem numL_six (n : Nat) (h : n ≤ 1099511627776) : (numL n).length ≤ 6 := by
  have step : ∀ (k n : Nat), n < 128 ^ (k + 1) → (numL n).length ≤ k + 1 := by
    intro k
    induction k with
    | zero => intro n hn; rw [numL_small n (by simpa using hn)]; simp
    | succ k ih =>
      intro n hn
      by_cases h : n < 128
      · rw [numL_small n h]; simp
      · rw [numL_big n h, List.length_cons]
        have := ih (n / 128) (by rw [Nat.div_lt_iff_lt_mul (by omega), ← Nat.pow_succ]; exact hn)
        omega
  exact step 5 n (by omega)
theorem numL_inj : ∀ (a b : Nat), numL a = numL b → a = b := by
  intro a
  induction a using numL.induct with
  | case1 a h =>
    intro b hb
    rw [numL_small a h] at hb
    by_cases h' : b < 128
    · rw [numL_small b h'] at hb; simpa using hb
    · rw [numL_big b h'] at hb
      have := congrArg List.length hb
      have hp := numL_pos (b / 128)
      simp only [List.length_cons, List.length_nil] at this; omega
  | case2 a h ih =>
    intro b hb
    rw [numL_big a h] at hb
    by_cases h' : b < 128
    · rw [numL_small b h'] at hb
      have := congrArg List.length hb
      have hp := numL_pos (a / 128)
      simp only [List.length_cons, List.length_nil] at this; omega
    · rw [numL_big b h'] at hb
      simp only [List.cons.injEq] at hb
      have := ih (b / 128) hb.2
      omega
theorem numL_mono {a b : Nat} (h : a ≤ b) : (numL a).length ≤ (numL b).length := by
  induction b using numL.induct generalizing a with
  | case1 b hb => rw [numL_small b hb, numL_small a (by omega)]; exact Nat.le_refl _
  | case2 b hb ih =>
    rw [numL_big b hb]
    by_cases ha : a < 128
    · rw [numL_small a ha]; simp
    · rw [numL_big a ha, List.length_cons, List.length_cons]
      have := ih (a := a / 128) (Nat.div_le_div_right h)
      omega
/-- Every digit but the last is 128 or more. -/
theorem numL_last (n i : Nat) (hi : i < (numL n).length) : ((numL n).getD i 0 < 128) ↔ i + 1 = (numL n).length := by
  induction n using numL.induct generalizing i with
  | case1 n h =>
    rw [numL_small n h] at hi ⊢
    simp at hi
    subst hi
    simp [h]
  | case2 n h ih =>
    rw [numL_big n h] at hi ⊢
    cases i with
    | zero =>
      have hp := numL_pos (n / 128)
      simp only [List.getD_cons_zero, List.length_cons]
      omega
    | succ i =>
      simp only [List.getD_cons_succ, List.length_cons] at hi ⊢
      rw [ih i (by omega)]; omega
end Go.Proofs.YtkinpbhbgeiflaaDoor.Cm
/- code.Num: a number behind bytes. -/
namespace Go.Proofs.YtkinpbhbgeiflaaDoor.Cn
set_option linter.unusedVariables false
set_option linter.unusedSimpArgs false
set_option maxRecDepth 100000
open Go.ChangeShapes Go.WideShapes Go.ChangeAt Go.RowKit
open Go.Proofs.YtkinpbhbgeiflaaDoor.Wu Go.Proofs.YtkinpbhbgeiflaaDoor.Sm Go.Proofs.YtkinpbhbgeiflaaDoor.Sh Go.Proofs.YtkinpbhbgeiflaaDoor.Ba Go.Proofs.YtkinpbhbgeiflaaDoor.Bp Go.Proofs.YtkinpbhbgeiflaaDoor.Bq Go.Proofs.YtkinpbhbgeiflaaDoor.Cm

set_option maxHeartbeats 1600000 in
theorem num_c (v : Value) (N : Nat) (L : List Nat) (n : Nat) (w : World) (hb : Buf w v N L) (hN : N ≤ w.heap.size) (hn : n ≤ 1099511627776) (hL : L.length ≤ 1000000) :
    Calls Tryd.prog 61 #[v, .int .i64 (n : Int)] w fun e w' => ∃ v', e = .returned v' ∧ Buf w' v' N (L ++ numL n) ∧ Below N w w' := by
  have HB := hide hb
  clear hb
  have d1 : ¬ ((n : Int) < 0) := by omega
  have d2 : ¬ (1099511627776 < (n : Int)) := by omega
  have d3 := numL_six n hn
  go_enter Tryd.func61, Tryd.ntmps61
  go_wp2_with fail
  go_loopw [0, 1] (fun b m wr => ∃ (k : Nat) (cur : List Nat), m = .int .i64 (k : Int) ∧ k ≤ 1099511627776 ∧ Buf wr b N cur ∧ cur ++ numL k = L ++ numL n ∧ N ≤ wr.heap.size ∧ Below N w wr) (fun _ m _ => (intOf m).toNat)
  case atStart => exact ⟨n, L, rfl, hn, HB.out, rfl, hN, Below.refl _ _⟩
  case round =>
    clear HB
    obtain ⟨k, cur, rfl, hk, hb, he, hNr, hB⟩ := hrel
    have HBf := hide hb
    have HE := hide he
    have HB := hide hB
    have hcl : cur.length ≤ 2000000 := by
      have := congrArg List.length he
      rw [List.length_append, List.length_append] at this
      omega
    clear hb he hB
    by_cases hlt : k < 128
    · have hd : decide ((128 : Int) ≤ (k : Int)) = false := by simp; omega
      have HL := hide (numL_small k hlt)
      have HS := hide (src_one (heap_last wr (.cells #[.int .u8 (k : Int)] 5)) (by omega))
      have HB1 := hide (HBf.out.up (below_new wr (.cells #[.int .u8 (k : Int)] 5)))
      have HBl := hide (HB.out.alloc hNr (.cells #[.int .u8 (k : Int)] 5))
      have hN1 : N ≤ (wr.alloc (.cells #[.int .u8 (k : Int)] 5)).heap.size := by simp; omega
      clear HBf HB
      as_aux_lemma =>
        go_wp2_with (refine wpList_append_buf rfl (.tmp 19) (.tmp 22) rfl u0 N cur (some ⟨wr.heap.size, 0, none⟩) 1 1 [k] rfl rfl HB1.out hN1 HS.out (fun h => by cases h) (by omega) (by omega) ?_)
        intro v2 w2 HB2 HBl2
        refine of_hid ?_
        go_wp2
        go_ret
        refine ⟨v2, rfl, ?_, HBl.out.trans HBl2.out⟩
        rw [← HE.out, HL.out]
        exact HB2.out
    · have hd : decide ((128 : Int) ≤ (k : Int)) = true := by simp; omega
      have HL := hide (numL_big k hlt)
      obtain ⟨x, hx⟩ : ∃ x, x = k % 128 + 128 := ⟨_, rfl⟩
      have hx8 : x < 256 := by omega
      have hxe : (k : Int) % 128 + 128 = (x : Int) := by omega
      have HX := hide hx
      clear hx
      have HS := hide (src_one (heap_last wr (.cells #[.int .u8 (x : Int)] 5)) hx8)
      have HB1 := hide (HBf.out.up (below_new wr (.cells #[.int .u8 (x : Int)] 5)))
      have HBl := hide (HB.out.alloc hNr (.cells #[.int .u8 (x : Int)] 5))
      have hN1 : N ≤ (wr.alloc (.cells #[.int .u8 (x : Int)] 5)).heap.size := by simp; omega
      clear HBf HB
      as_aux_lemma =>
        go_wp2_with (refine wpList_append_buf rfl (.tmp 10) (.tmp 15) rfl u0 N cur (some ⟨wr.heap.size, 0, none⟩) 1 1 [x] rfl rfl HB1.out hN1 HS.out (fun h => by cases h) (by omega) (by omega) ?_)
        intro v2 w2 HB2 HBl2
        refine of_hid ?_
        clear hxe
        go_wp2
        go_roundw
        case rel =>
          refine ⟨k / 128, cur ++ [x], congrArg (Value.int .i64) (by omega), by omega, HB2.out, ?_, Nat.le_trans hN1 HBl2.out.size, HBl.out.trans HBl2.out⟩
          rw [← HE.out, HL.out, HX.out]
          simp
        case measure => simp [intOf]; omega
end Go.Proofs.YtkinpbhbgeiflaaDoor.Cn
/- code.Num onto a buffer of the call's own: nothing else that lay there turns. -/
namespace Go.Proofs.YtkinpbhbgeiflaaDoor.Kv
set_option linter.unusedVariables false
set_option linter.unusedSimpArgs false
set_option maxRecDepth 100000
open Go.ChangeShapes Go.WideShapes Go.ChangeAt Go.RowKit
open Go.Proofs.YtkinpbhbgeiflaaDoor.Wu Go.Proofs.YtkinpbhbgeiflaaDoor.Sm Go.Proofs.YtkinpbhbgeiflaaDoor.Sh Go.Proofs.YtkinpbhbgeiflaaDoor.Ba Go.Proofs.YtkinpbhbgeiflaaDoor.Bp Go.Proofs.YtkinpbhbgeiflaaDoor.Bq Go.Proofs.YtkinpbhbgeiflaaDoor.Cm Go.Proofs.YtkinpbhbgeiflaaDoor.Cn
/-- append: just the buffer's own block turns, or there is a new one. -/
theorem append_own (w : World) (ty : TypeId) (v : Value) (N : Nat) (L : List Nat) (A : Option Addr) (m c : Nat) (L' : List Nat) (hb : Buf w v N L) (hN : N ≤ w.heap.size) (hs : SrcB w A m L') (hc : A = none → m = 0) (hbig : L.length + m ≤ 70368744177664) (hm : 0 < m ∨ 0 < L.length) :
    ∃ v' w', (Builtin.append_ #[22, 22] ty #[v, .slice A m c]).run Tryd.prog w = .ok v' w' ∧ Buf w' v' N (L ++ L') ∧ w.grownBy w' v.ownBlock ∧ (v'.ownBlock = v.ownBlock ∨ v'.ownBlock = some w.heap.size) := by
  have hl := hs.1
  rcases hb with ⟨rfl, rfl⟩ | ⟨g, cap, rfl, hg, hd⟩
  · have hm0 : 0 < m := by rcases hm with h | h; exact h; simp at h
    cases A with
    | none => have := hc rfl; omega
    | some ad =>
      obtain ⟨cap', w', hr, hd, hb⟩ := append_nil_dst w ty ad m c L' hm0 hs (by simpa using hbig)
      refine ⟨_, _, hr, .inr ⟨w.heap.size, cap', ?_, hN, ?_⟩, ⟨hb.os, hb.tape, hb.output, hb.size, fun k hk _ => hb.block k hk⟩, .inr rfl⟩
      · rw [List.nil_append, hl]
      · rw [List.nil_append, hl]; exact hd
  · obtain ⟨g', cap', w', hr, hd', hG, hgg, -⟩ := append_dst w ty g L.length cap L A m c L' hd hs hbig hc
    refine ⟨_, _, hr, .inr ⟨g', cap', ?_, ?_, ?_⟩, hG, ?_⟩
    · rw [List.length_append, hl]
    · rcases hgg with rfl | rfl <;> omega
    · rw [List.length_append, hl]; exact hd'
    · rcases hgg with rfl | rfl
      · exact .inl rfl
      · exact .inr rfl
theorem wpList_append_own {w : World} {ops : Array Oper} {rest : List Oper} {o : Oper} {a : Act} {Q : Exit → Act → World → Prop} (hgd : o.guard = none) (s x : Operand)
    (ho : o.op = .call { callee := .builtin .append, args := #[s, x], argTypes := #[22, 22] }) (v : Value) (N : Nat) (L : List Nat) (A : Option Addr) (m c : Nat) (L' : List Nat)
    (hs : a.eval s = v) (hx : a.eval x = .slice A m c) (hb : Buf w v N L) (hN : N ≤ w.heap.size) (hsrc : SrcB w A m L') (hc : A = none → m = 0) (hbig : L.length + m ≤ 70368744177664) (hm : 0 < m ∨ 0 < L.length)
    (h : ∀ v' w', Hid (Buf w' v' N (L ++ L')) → Hid (w.grownBy w' v.ownBlock) → Hid (v'.ownBlock = v.ownBlock ∨ v'.ownBlock = some w.heap.size) → Hid (wpList Tryd.prog ops Q rest (a.put o.dst v') w')) : wpList Tryd.prog ops Q (o :: rest) a w := by
  obtain ⟨v', w', hrun, h1, h2, h3⟩ := append_own w o.type v N L A m c L' hb hN hsrc hc hbig hm
  refine wpList_plain hgd fun K hK => ?_
  unfold Oper.wp
  simp [execOp, ho, resolve, invoke, builtin, hs, hx, hrun, Result.andThen]
  exact hK _ _ (h v' w' h1 h2 h3)
theorem buf_own {w : World} {v : Value} {N : Nat} {L : List Nat} (h : Buf w v N L) : ∀ g, v.ownBlock = some g → N ≤ g ∧ g < w.heap.size := by
  intro g hg
  rcases h with ⟨rfl, _⟩ | ⟨g', cap, rfl, h1, h2⟩
  · cases hg
  · injection hg with hg
    subst hg
    exact ⟨h1, h2.lt⟩
/-- From w0 on, when the buffer was v0, nothing else has turned; the buffer is b now. -/
structure Ow (w0 : World) (v0 : Value) (N : Nat) (u : World) (b : Value) : Prop where
  below : Below N w0 u
  size : w0.heap.size ≤ u.heap.size
  keep : ∀ k, k < w0.heap.size → v0.ownBlock ≠ some k → u.heap[k]? = w0.heap[k]?
  own : b.ownBlock = v0.ownBlock ∨ ∀ g, b.ownBlock = some g → w0.heap.size ≤ g
theorem Ow.refl (w0 : World) (v0 : Value) (N : Nat) : Ow w0 v0 N w0 v0 := ⟨Below.refl _ _, Nat.le_refl _, fun _ _ _ => rfl, .inl rfl⟩
theorem Ow.alloc {w0 : World} {v0 : Value} {N : Nat} {u : World} {b : Value} (h : Ow w0 v0 N u b) (hN : N ≤ u.heap.size) (o : Obj) : Ow w0 v0 N (u.alloc o) b :=
  ⟨h.below.alloc hN o, by simp; have := h.size; omega, fun k hk hv => (Below.heap_alloc u o k (Nat.lt_of_lt_of_le hk h.size)).trans (h.keep k hk hv), h.own⟩
theorem Ow.append {w0 : World} {v0 : Value} {N : Nat} {u u' : World} {b b' : Value} (h : Ow w0 v0 N u b) (hN : N ≤ u.heap.size) (hb : ∀ g, b.ownBlock = some g → N ≤ g) (hg : u.grownBy u' b.ownBlock) (ho : b'.ownBlock = b.ownBlock ∨ b'.ownBlock = some u.heap.size) : Ow w0 v0 N u' b' := by
  refine ⟨h.below.grown hg hN hb, Nat.le_trans h.size hg.size, fun k hk hv => ?_, ?_⟩
  · rw [hg.block k (Nat.lt_of_lt_of_le hk h.size) (fun e => ?_)]
    · exact h.keep k hk hv
    · rcases h.own with h1 | h1
      · exact hv (by rw [← h1]; exact e.symm)
      · have := h1 k e.symm; omega
  · rcases ho with e | e
    · rw [e]; exact h.own
    · right
      intro g hg'
      rw [e] at hg'
      injection hg' with hg'
      have := h.size
      omega
set_option maxHeartbeats 1600000 in
theorem num_k (v : Value) (N : Nat) (L : List Nat) (n : Nat) (w : World) (hb : Buf w v N L) (hN : N ≤ w.heap.size) (hn : n ≤ 1099511627776) (hL : L.length ≤ 1000000) :
    Calls Tryd.prog 61 #[v, .int .i64 (n : Int)] w fun e w' => ∃ v', e = .returned v' ∧ Buf w' v' N (L ++ numL n) ∧ Ow w v N w' v' := by
  have HB := hide hb
  clear hb
  have d1 : ¬ ((n : Int) < 0) := by omega
  have d2 : ¬ (1099511627776 < (n : Int)) := by omega
  have d3 := numL_six n hn
  go_enter Tryd.func61, Tryd.ntmps61
  go_wp2_with fail
  go_loopw [0, 1] (fun b m wr => ∃ (k : Nat) (cur : List Nat), m = .int .i64 (k : Int) ∧ k ≤ 1099511627776 ∧ Buf wr b N cur ∧ cur ++ numL k = L ++ numL n ∧ N ≤ wr.heap.size ∧ Ow w v N wr b) (fun _ m _ => (intOf m).toNat)
  case atStart => exact ⟨n, L, rfl, hn, HB.out, rfl, hN, Ow.refl _ _ _⟩
  case round =>
    clear HB
    obtain ⟨k, cur, rfl, hk, hb, he, hNr, hB⟩ := hrel
    have HBf := hide hb
    have HE := hide he
    have HB := hide hB
    have hcl : cur.length ≤ 2000000 := by
      have := congrArg List.length he
      rw [List.length_append, List.length_append] at this
      omega
    clear hb he hB
    by_cases hlt : k < 128
    · have hd : decide ((128 : Int) ≤ (k : Int)) = false := by simp; omega
      have HL := hide (numL_small k hlt)
      have HS := hide (src_one (heap_last wr (.cells #[.int .u8 (k : Int)] 5)) (by omega))
      have HB1 := hide (HBf.out.up (below_new wr (.cells #[.int .u8 (k : Int)] 5)))
      have HBl := hide (HB.out.alloc hNr (.cells #[.int .u8 (k : Int)] 5))
      have hN1 : N ≤ (wr.alloc (.cells #[.int .u8 (k : Int)] 5)).heap.size := by simp; omega
      have Hlow := hide (fun g (hg : u0.ownBlock = some g) => (buf_own HBf.out g hg).1)
      clear HBf HB
      as_aux_lemma =>
        go_wp2_with (refine wpList_append_own rfl (.tmp 19) (.tmp 22) rfl u0 N cur (some ⟨wr.heap.size, 0, none⟩) 1 1 [k] rfl rfl HB1.out hN1 HS.out (fun h => by cases h) (by omega) (.inl (by omega)) ?_)
        intro v2 w2 HB2 HG2 HO2
        refine of_hid ?_
        go_wp2
        go_ret
        refine ⟨v2, rfl, ?_, HBl.out.append hN1 Hlow.out HG2.out (by simpa using HO2.out)⟩
        rw [← HE.out, HL.out]
        exact HB2.out
    · have hd : decide ((128 : Int) ≤ (k : Int)) = true := by simp; omega
      have HL := hide (numL_big k hlt)
      obtain ⟨x, hx⟩ : ∃ x, x = k % 128 + 128 := ⟨_, rfl⟩
      have hx8 : x < 256 := by omega
      have hxe : (k : Int) % 128 + 128 = (x : Int) := by omega
      have HX := hide hx
      clear hx
      have HS := hide (src_one (heap_last wr (.cells #[.int .u8 (x : Int)] 5)) hx8)
      have HB1 := hide (HBf.out.up (below_new wr (.cells #[.int .u8 (x : Int)] 5)))
      have HBl := hide (HB.out.alloc hNr (.cells #[.int .u8 (x : Int)] 5))
      have hN1 : N ≤ (wr.alloc (.cells #[.int .u8 (x : Int)] 5)).heap.size := by simp; omega
      have Hlow := hide (fun g (hg : u0.ownBlock = some g) => (buf_own HBf.out g hg).1)
      clear HBf HB
      as_aux_lemma =>
        go_wp2_with (refine wpList_append_own rfl (.tmp 10) (.tmp 15) rfl u0 N cur (some ⟨wr.heap.size, 0, none⟩) 1 1 [x] rfl rfl HB1.out hN1 HS.out (fun h => by cases h) (by omega) (.inl (by omega)) ?_)
        intro v2 w2 HB2 HG2 HO2
        refine of_hid ?_
        clear hxe
        go_wp2
        go_roundw
        case rel =>
          refine ⟨k / 128, cur ++ [x], congrArg (Value.int .i64) (by omega), by omega, HB2.out, ?_, Nat.le_trans hN1 HG2.out.size, HBl.out.append hN1 Hlow.out HG2.out (by simpa using HO2.out)⟩
          rw [← HE.out, HL.out, HX.out]
          simp
        case measure => simp [intOf]; omega
end Go.Proofs.YtkinpbhbgeiflaaDoor.Kv
/- Tokens: what they are, plainly; a slice of them of the call's own. -/
namespace Go.Proofs.YtkinpbhbgeiflaaDoor.Da
set_option linter.unusedVariables false
set_option linter.unusedSimpArgs false
set_option maxRecDepth 100000
open Go.RowKit
open Go.Proofs.YtkinpbhbgeiflaaDoor.Wu Go.Proofs.YtkinpbhbgeiflaaDoor.Sm Go.Proofs.YtkinpbhbgeiflaaDoor.Sh Go.Proofs.YtkinpbhbgeiflaaDoor.Ba Go.Proofs.YtkinpbhbgeiflaaDoor.Bp Go.Proofs.YtkinpbhbgeiflaaDoor.Bq Go.Proofs.YtkinpbhbgeiflaaDoor.Kv
structure Tok where
  f : Int
  c : Int
  d : List Nat
deriving DecidableEq
def Tok.isB (t : Tok) : Bool := decide (t.f = 0 ∧ t.c = 0 ∧ 0 < t.d.length)
def Tok.isK (t : Tok) : Bool := decide (1 ≤ t.c ∧ t.c ≤ 1099511627776 ∧ 0 ≤ t.f ∧ t.f ≤ 1099511627776 ∧ t.d.length = 0)
def fuse (l x : Tok) : Option Tok :=
  if l.isB = true ∧ x.isB = true then some ⟨l.f, l.c, l.d ++ x.d⟩
  else if l.isK = true ∧ x.isK = true ∧ x.f = l.f + l.c then some ⟨l.f, l.c + x.c, l.d⟩ else none
/-- Tokens with one behind them. -/
def joinT (ts : List Tok) (x : Tok) : List Tok :=
  match ts.getLast? with
  | none => [x]
  | some l => match fuse l x with
    | some y => ts.dropLast ++ [y]
    | none => ts ++ [x]
theorem joinT_nil (x : Tok) : joinT [] x = [x] := rfl
theorem joinT_snoc (us : List Tok) (l x : Tok) : joinT (us ++ [l]) x = match fuse l x with
    | some y => us ++ [y]
    | none => us ++ [l, x] := by
  unfold joinT
  simp only [List.getLast?_append, List.getLast?_singleton, Option.some_or]
  cases fuse l x <;> simp
abbrev TV := Tok × Value
def tokC (p : TV) : List Value := [.int .i64 p.1.f, .int .i64 p.1.c, p.2]
def rowT (ps : List TV) : List Value := ps.flatMap tokC
theorem rowT_append (ps qs : List TV) : rowT (ps ++ qs) = rowT ps ++ rowT qs := by simp [rowT]
theorem rowT_length (ps : List TV) : (rowT ps).length = ps.length * 3 := by
  unfold rowT
  induction ps with
  | nil => rfl
  | cons u us ih => rw [List.flatMap_cons, List.length_append, ih, List.length_cons]; show 3 + _ = _; omega
theorem rowT_at : ∀ {ps : List TV} {i : Nat} {p : TV}, ps[i]? = some p → (rowT ps)[i * 3]? = some (.int .i64 p.1.f) ∧ (rowT ps)[i * 3 + 1]? = some (.int .i64 p.1.c) ∧ (rowT ps)[i * 3 + 2]? = some p.2
  | [], i, u, h => by simp at h
  | x :: us, 0, u, h => by
    simp at h
    subst h
    exact ⟨rfl, rfl, rfl⟩
  | x :: us, i + 1, u, h => by
    have ih := rowT_at (ps := us) (i := i) (p := u) (by simpa using h)
    have e : ∀ k, (rowT (x :: us))[k + 3]? = (rowT us)[k]? := fun k => rfl
    rw [show (i + 1) * 3 = i * 3 + 3 by omega, show i * 3 + 3 + 1 = (i * 3 + 1) + 3 by omega, show i * 3 + 3 + 2 = (i * 3 + 2) + 3 by omega, e, e, e]
    exact ih
theorem rowT_set0 (us : List TV) (t : Tok) (d y : Value) : (rowT (us ++ [(t, d)])).set (us.length * 3 + 2) y = rowT (us ++ [(t, y)]) := by
  rw [rowT_append, rowT_append, List.set_append_right _ _ (by rw [rowT_length]; omega), rowT_length, show us.length * 3 + 2 - us.length * 3 = 2 by omega]
  rfl
theorem rowT_set1 (us : List TV) (t : Tok) (d : Value) (c : Int) : (rowT (us ++ [(t, d)])).set (us.length * 3 + 1) (.int .i64 c) = rowT (us ++ [(⟨t.f, c, t.d⟩, d)]) := by
  rw [rowT_append, rowT_append, List.set_append_right _ _ (by rw [rowT_length]; omega), rowT_length, show us.length * 3 + 1 - us.length * 3 = 1 by omega]
  rfl
/-- A slice of tokens of the call's own; each one's bytes lie in a buffer of their own. -/
structure OwnT (w : World) (N : Nat) (v : Value) (ps : List TV) : Prop where
  row : w.ownsRow N 68 3 v ps.length (rowT ps)
  buf : ∀ p ∈ ps, Buf w p.2 N p.1.d
  off : ∀ p ∈ ps, p.2.ownBlock = none ∨ p.2.ownBlock ≠ v.ownBlock
  apart : ps.Pairwise fun p q => p.2.ownBlock = none ∨ p.2.ownBlock ≠ q.2.ownBlock
theorem OwnT.nil (w : World) (N : Nat) : OwnT w N (.slice none 0 0) [] := ⟨World.ownsRow_nil _ _ _ _, (fun p hp => by cases hp), (fun p hp => by cases hp), List.Pairwise.nil⟩
theorem Dst.same {w w' : World} {g n cap : Nat} {L : List Nat} (h : Dst w g n cap L) (e : w'.heap[g]? = w.heap[g]?) (hs : w.heap.size ≤ w'.heap.size) : Dst w' g n cap L :=
  ⟨h.len, h.all, h.fit, h.max, Nat.lt_of_lt_of_le h.lt hs, fun j v hv => by rw [World.cell?_of_block (a := ⟨g, 0 + j, none⟩) e]; exact h.cells j v hv,
    fun j hj => ⟨by rw [World.cell?_of_block (a := ⟨g, n + j, none⟩) e]; exact (h.spare j hj).1, by rw [World.frozen?_of_block (a := ⟨g, n + j, none⟩) e]; exact (h.spare j hj).2⟩,
    fun o => by rw [World.frozen?_of_block (a := ⟨g, o, none⟩) e]; exact h.free o⟩
theorem buf_same {w w' : World} {v : Value} {N : Nat} {L : List Nat} (h : Buf w v N L) (hs : w.heap.size ≤ w'.heap.size) (hk : ∀ g, v.ownBlock = some g → w'.heap[g]? = w.heap[g]?) : Buf w' v N L := by
  rcases h with h | ⟨g, cap, h1, h2, hd⟩
  · exact .inl h
  · exact .inr ⟨g, cap, h1, h2, Dst.same hd (hk g (by rw [h1]; rfl)) hs⟩
theorem row_same {w w' : World} {N n : Nat} {e : TypeId} {v : Value} {xs : List Value} (h : w.ownsRow N e 3 v n xs) (hk : ∀ g, v.ownBlock = some g → w'.heap[g]? = w.heap[g]?) : w'.ownsRow N e 3 v n xs := by
  obtain ⟨h1, h2⟩ := h
  refine ⟨h1, ?_⟩
  rcases h2 with h | ⟨g, cap, cur, rfl, hb, hg, r⟩
  · exact .inl h
  · exact .inr ⟨g, cap, cur, rfl, hb, (hk g rfl).trans hg, r⟩
theorem OwnT.own {w : World} {N : Nat} {v : Value} {ps : List TV} (h : OwnT w N v ps) : ∀ g, v.ownBlock = some g → N ≤ g ∧ g < w.heap.size := fun g hg => World.ownsRow.lt h.row g hg
theorem OwnT.owns {w : World} {N : Nat} {v : Value} {ps : List TV} (h : OwnT w N v ps) {p : TV} (hp : p ∈ ps) : ∀ g, p.2.ownBlock = some g → N ≤ g ∧ g < w.heap.size := buf_own (h.buf p hp)
theorem OwnT.same {w w' : World} {N : Nat} {v : Value} {ps : List TV} (h : OwnT w N v ps) (hs : w.heap.size ≤ w'.heap.size) (hv : ∀ g, v.ownBlock = some g → w'.heap[g]? = w.heap[g]?) (hp : ∀ p ∈ ps, ∀ g, p.2.ownBlock = some g → w'.heap[g]? = w.heap[g]?) : OwnT w' N v ps :=
  ⟨row_same h.row hv, fun p hm => buf_same (h.buf p hm) hs (hp p hm), h.off, h.apart⟩
theorem OwnT.below {w w' : World} {N : Nat} {v : Value} {ps : List TV} (h : OwnT w N v ps) (hb : Below w.heap.size w w') : OwnT w' N v ps :=
  h.same hb.size (fun g hg => hb.block g (h.own g hg).2) (fun p hp g hg => hb.block g (h.owns hp g hg).2)
/-- What isn't the tokens' is as it was. -/
structure KeepT (w : World) (v : Value) (ps : List TV) (w' : World) : Prop where
  os : w'.os = w.os
  tape : w'.tape = w.tape
  output : w'.output = w.output
  size : w.heap.size ≤ w'.heap.size
  block : ∀ k, k < w.heap.size → some k ≠ v.ownBlock → (∀ p ∈ ps, some k ≠ p.2.ownBlock) → w'.heap[k]? = w.heap[k]?
theorem KeepT.refl (w : World) (v : Value) (ps : List TV) : KeepT w v ps w := ⟨rfl, rfl, rfl, Nat.le_refl _, fun _ _ _ _ => rfl⟩
theorem KeepT.of_grown {w w' : World} {v : Value} {ps : List TV} (h : w.grownBy w' v.ownBlock) : KeepT w v ps w' := ⟨h.os, h.tape, h.output, h.size, fun k hk hv _ => h.block k hk hv⟩
theorem KeepT.of_data {w w' : World} {v : Value} {ps : List TV} {p : TV} (hp : p ∈ ps) (h : w.grownBy w' p.2.ownBlock) : KeepT w v ps w' := ⟨h.os, h.tape, h.output, h.size, fun k hk _ hq => h.block k hk (hq p hp)⟩
theorem KeepT.from_below {w u w' : World} {v : Value} {ps : List TV} (hb : Below w.heap.size w u) (h : KeepT u v ps w') : KeepT w v ps w' :=
  ⟨h.os.trans hb.os, h.tape.trans hb.tape, h.output.trans hb.output, Nat.le_trans hb.size h.size, fun k hk hv hq => (h.block k (Nat.lt_of_lt_of_le hk hb.size) hv hq).trans (hb.block k hk)⟩
theorem KeepT.set {w u : World} {v : Value} {ps : List TV} (h : KeepT w v ps u) {g : Nat} (hg : v.ownBlock = some g) (o : Nat) (y : Value) : KeepT w v ps (u.setCell ⟨g, o, none⟩ y) := by
  have hb := (RowKit.Below.refl g u).setCell (p := ⟨g, o, none⟩) (Nat.le_refl _) y
  exact ⟨hb.os.trans h.os, hb.tape.trans h.tape, hb.output.trans h.output, Nat.le_trans h.size hb.size, fun k hk hv hq => (RowKit.Below.heap_setCell u _ y k (fun e => hv (by rw [hg, e]))).trans (h.block k hk hv hq)⟩
theorem KeepT.below {w w' : World} {N : Nat} {v : Value} {ps : List TV} (h : KeepT w v ps w') (ho : OwnT w N v ps) (hN : N ≤ w.heap.size) : Below N w w' :=
  ⟨h.os, h.tape, h.output, h.size, fun k hk => h.block k (by omega) (fun e => by have := (ho.own k e.symm).1; omega) (fun p hp e => by have := (ho.owns hp k e.symm).1; omega)⟩
theorem info_tok : (Tryd.prog.info? 68).map (fun i => (i.zero, i.size, i.bytes)) = some (some (.agg #[.int .i64 0, .int .i64 0, .slice none 0 0]), 3, 40) := by kernel_rfl
theorem cells3 {w : World} {b : Nat} {x y z : Value} {T : TypeId} {f : Nat × Nat} (h : w.heap[b]? = some (.cells #[x, y, z] T f)) : ∀ j u, [x, y, z][j]? = some u → w.cell? ((⟨b, 0, none⟩ : Addr).add j) = some u := by
  intro j u hu
  rw [Addr.add_mid, Nat.zero_add]
  exact blk_cell h (by simpa using hu)
theorem buf_one {w : World} {v : Value} {N : Nat} {L : List Nat} (h : Buf w v N L) : v.oneCell' = true := by
  rcases h with ⟨rfl, _⟩ | ⟨g, cap, rfl, _⟩ <;> rfl
/-- append(list, one) -/
theorem append_tok (w : World) (ty : TypeId) (v : Value) (N : Nat) (ps : List TV) (b : Nat) (t : Tok) (dv : Value) (T : TypeId) (f : Nat × Nat) (c : Nat) (h : OwnT w N v ps) (hN : N ≤ w.heap.size) (hb : w.heap[b]? = some (.cells #[.int .i64 t.f, .int .i64 t.c, dv] T f))
    (hd : Buf w dv N t.d) (hoff : dv.ownBlock = none ∨ dv.ownBlock ≠ v.ownBlock) (hap : ∀ p ∈ ps, p.2.ownBlock = none ∨ p.2.ownBlock ≠ dv.ownBlock) (hbig : ps.length ≤ 1000000000) :
    ∃ v' w', (Builtin.append_ #[53, 53] ty #[v, .slice (some ⟨b, 0, none⟩) 1 c]).run Tryd.prog w = .ok v' w' ∧ OwnT w' N v' (ps ++ [(t, dv)]) ∧ w.grownBy w' v.ownBlock ∧ (v'.ownBlock = v.ownBlock ∨ v'.ownBlock = some w.heap.size) := by
  obtain ⟨i0, hi0, hz0, hz1, hz2⟩ := info_parts info_tok
  obtain ⟨v', w', hr, h1, h2, h3, h4⟩ := run_append_own_at (P := Tryd.prog) w N 53 ty 68 i0 _ 3 40 Tryd.underlying53 hi0 hz0 hz1 hz2 rfl (by omega) v ps.length (rowT ps) h.row ⟨b, 0, none⟩ 1 c [.int .i64 t.f, .int .i64 t.c, dv] rfl (cells3 hb) (by
    intro u hu
    simp only [List.mem_cons, List.not_mem_nil, or_false] at hu
    rcases hu with rfl | rfl | rfl
    · rfl
    · rfl
    · exact buf_one hd) (by unfold maxLen; omega) (by omega) hN
  refine ⟨v', w', hr, ⟨?_, ?_, ?_, ?_⟩, h2, h4⟩
  · rw [rowT_append, List.length_append]
    exact h1
  · intro p hp
    rcases List.mem_append.1 hp with hp | hp
    · exact buf_same (h.buf p hp) h2.size (fun g hg => h2.block g (h.owns hp g hg).2 (fun e => by rcases h.off p hp with h5 | h5; rw [h5] at hg; cases hg; exact h5 (by rw [hg, e])))
    · rw [List.mem_singleton.1 hp]
      exact buf_same hd h2.size (fun g hg => h2.block g (buf_own hd g hg).2 (fun e => by rcases hoff with h5 | h5; rw [h5] at hg; cases hg; exact h5 (by rw [hg, e])))
  · have key : ∀ d : Value, (∀ g, d.ownBlock = some g → g < w.heap.size) → (d.ownBlock = none ∨ d.ownBlock ≠ v.ownBlock) → d.ownBlock = none ∨ d.ownBlock ≠ v'.ownBlock := fun d hl ho => by
      rcases h4 with e | e
      · rw [e]; exact ho
      · rw [e]
        cases hd : d.ownBlock with
        | none => exact .inl rfl
        | some g => exact .inr (fun e' => by injection e' with e'; have := hl g hd; omega)
    intro p hp
    rcases List.mem_append.1 hp with hp | hp
    · exact key p.2 (fun g hg => (h.owns hp g hg).2) (h.off p hp)
    · rw [List.mem_singleton.1 hp]
      exact key dv (fun g hg => (buf_own hd g hg).2) hoff
  · exact List.pairwise_append.2 ⟨h.apart, List.pairwise_singleton _ _, fun p hp q hq => by rw [List.mem_singleton.1 hq]; exact hap p hp⟩
theorem row_set {w : World} {N n g cap j : Nat} {e : TypeId} {xs : List Value} (y : Value) (h : w.ownsRow N e 3 (.slice (some ⟨g, 0, none⟩) n cap) n xs) (hj : j < n * 3) : (w.setCell ⟨g, j, none⟩ y).ownsRow N e 3 (.slice (some ⟨g, 0, none⟩) n cap) n (xs.set j y) := by
  obtain ⟨h1, h2⟩ := h
  refine ⟨by rw [List.length_set]; exact h1, ?_⟩
  rcases h2 with ⟨h2, _⟩ | ⟨g', cap', cur, hv, hb, hg, hl, hm, hs, ht⟩
  · cases h2
  · injection hv with e1 e2 e3
    injection e1 with e1
    injection e1 with e1
    subst e1 e3
    refine .inr ⟨g, cap, cur.setIfInBounds j y, rfl, hb, blk_set hg _, hl, hm, by rw [Array.size_setIfInBounds]; exact hs, ?_⟩
    rw [Array.toList_setIfInBounds, List.take_set, ht]
theorem OwnT.form {w : World} {N : Nat} {v : Value} {ps : List TV} (h : OwnT w N v ps) : (v = .slice none 0 0 ∧ ps = []) ∨ ∃ g cap, v = .slice (some ⟨g, 0, none⟩) ps.length cap ∧ N ≤ g ∧ g < w.heap.size ∧ ps.length ≤ cap ∧ cap ≤ maxLen ∧ w.rangeAt g 0 (rowT ps) ∧ ∀ o, w.frozen? ⟨g, o, none⟩ = false := by
  obtain ⟨h1, h2⟩ := h.row
  rcases h2 with ⟨h2, h3⟩ | ⟨g, cap, cur, hv, hb, hg, hl, hm, hs, ht⟩
  · exact .inl ⟨h2, List.length_eq_zero_iff.1 h3⟩
  · refine .inr ⟨g, cap, hv, hb, heap_lt hg, hl, hm, fun k v hv => ?_, fun o => blk_free hg⟩
    rw [Nat.zero_add]
    refine blk_cell hg ?_
    rw [← ht] at hv
    rw [List.getElem?_take] at hv
    split at hv
    · simpa using hv
    · cases hv
/-- The last one's bytes become more. -/
theorem OwnT.setD {w w1 : World} {N g n cap : Nat} {us : List TV} {l : Tok} {dv dv' : Value} {L : List Nat} (h : OwnT w N (.slice (some ⟨g, 0, none⟩) n cap) (us ++ [(l, dv)])) (hg : w.grownBy w1 dv.ownBlock) (hb : Buf w1 dv' N (l.d ++ L)) (ho : dv'.ownBlock = dv.ownBlock ∨ dv'.ownBlock = some w.heap.size) :
    OwnT (w1.setCell ⟨g, us.length * 3 + 2, none⟩ dv') N (.slice (some ⟨g, 0, none⟩) n cap) (us ++ [(⟨l.f, l.c, l.d ++ L⟩, dv')]) := by
  have hlast : (l, dv) ∈ us ++ [(l, dv)] := by simp
  have hn : n = us.length + 1 := by
    rcases h.row.2 with ⟨h2, _⟩ | ⟨g', cap', cur, hv, _⟩
    · cases h2
    · injection hv with _ e2 _
      rw [e2]; simp
  have hgs := h.own g rfl
  have hdv : dv.ownBlock = none ∨ dv.ownBlock ≠ some g := h.off _ hlast
  have hgd : some g ≠ dv.ownBlock := fun e => by
    rcases hdv with h1 | h1
    · rw [h1] at e; cases e
    · exact h1 e.symm
  have hgd' : some g ≠ dv'.ownBlock := fun e => by
    rcases ho with h1 | h1
    · rw [h1] at e; exact hgd e
    · rw [h1] at e; injection e with e; omega
  have hsz : (w1.setCell ⟨g, us.length * 3 + 2, none⟩ dv').heap.size = w1.heap.size := by simp [World.setCell]
  have hoth : ∀ k, k ≠ g → (w1.setCell ⟨g, us.length * 3 + 2, none⟩ dv').heap[k]? = w1.heap[k]? := fun k hk => RowKit.Below.heap_setCell w1 _ dv' k hk
  have hus : ∀ p ∈ us, ∀ k, p.2.ownBlock = some k → k ≠ g ∧ some k ≠ dv.ownBlock ∧ k < w.heap.size := fun p hp k hk => by
    have hm : p ∈ us ++ [(l, dv)] := List.mem_append_left _ hp
    refine ⟨fun e => ?_, fun e => ?_, (h.owns hm k hk).2⟩
    · rcases h.off p hm with h1 | h1
      · rw [h1] at hk; cases hk
      · exact h1 (by rw [hk, e]; rfl)
    · have := (List.pairwise_append.1 h.apart).2.2 p hp (l, dv) (by simp)
      rcases this with h1 | h1
      · rw [h1] at hk; cases hk
      · exact h1 (by rw [hk]; exact e)
  have hr := h.row
  have hlen : (us ++ [(l, dv)]).length = n := by simp [hn]
  rw [hlen] at hr
  refine ⟨?_, ?_, ?_, ?_⟩
  · have := row_set dv' (row_same hr (fun k hk => by injection hk with hk; subst hk; exact hg.block _ hgs.2 hgd)) (j := us.length * 3 + 2) (by omega)
    rw [rowT_set0] at this
    have e : rowT (us ++ [(l, dv')]) = rowT (us ++ [(⟨l.f, l.c, l.d ++ L⟩, dv')]) := by rw [rowT_append, rowT_append]; rfl
    rw [e] at this
    rw [show (us ++ [((⟨l.f, l.c, l.d ++ L⟩ : Tok), dv')]).length = n by simp [hn]]
    exact this
  · intro p hp
    rcases List.mem_append.1 hp with hp | hp
    · refine buf_same (h.buf p (List.mem_append_left _ hp)) (by rw [hsz]; exact hg.size) (fun k hk => ?_)
      obtain ⟨h1, h2, h3⟩ := hus p hp k hk
      rw [hoth k h1]
      exact hg.block k h3 h2
    · rw [List.mem_singleton.1 hp]
      refine buf_same hb (by rw [hsz]; exact Nat.le_refl _) (fun k hk => hoth k (fun e => hgd' (by rw [hk, e])))
  · intro p hp
    rcases List.mem_append.1 hp with hp | hp
    · exact h.off p (List.mem_append_left _ hp)
    · rw [List.mem_singleton.1 hp]
      exact .inr (fun e => hgd' e.symm)
  · refine List.pairwise_append.2 ⟨(List.pairwise_append.1 h.apart).1, List.pairwise_singleton _ _, fun p hp q hq => ?_⟩
    rw [List.mem_singleton.1 hq]
    cases hb : p.2.ownBlock with
    | none => exact .inl rfl
    | some k =>
      right
      obtain ⟨h1, h2, h3⟩ := hus p hp k hb
      rcases ho with e | e
      · show some k ≠ dv'.ownBlock
        rw [e]; exact h2
      · show some k ≠ dv'.ownBlock
        rw [e]; intro e'; injection e' with e'; omega
/-- The last one has more blocks. -/
theorem OwnT.setC {w : World} {N g n cap : Nat} {us : List TV} {l : Tok} {dv : Value} (c : Int) (h : OwnT w N (.slice (some ⟨g, 0, none⟩) n cap) (us ++ [(l, dv)])) :
    OwnT (w.setCell ⟨g, us.length * 3 + 1, none⟩ (.int .i64 c)) N (.slice (some ⟨g, 0, none⟩) n cap) (us ++ [(⟨l.f, c, l.d⟩, dv)]) := by
  have hn : n = us.length + 1 := by
    rcases h.row.2 with ⟨h2, _⟩ | ⟨g', cap', cur, hv, _⟩
    · cases h2
    · injection hv with _ e2 _
      rw [e2]; simp
  have hsz : (w.setCell ⟨g, us.length * 3 + 1, none⟩ (.int .i64 c)).heap.size = w.heap.size := by simp [World.setCell]
  have hoth : ∀ k, k ≠ g → (w.setCell ⟨g, us.length * 3 + 1, none⟩ (.int .i64 c)).heap[k]? = w.heap[k]? := fun k hk => RowKit.Below.heap_setCell w _ _ k hk
  have hne : ∀ p ∈ us ++ [(l, dv)], ∀ k, p.2.ownBlock = some k → k ≠ g := fun p hp k hk e => by
    rcases h.off p hp with h1 | h1
    · rw [h1] at hk; cases hk
    · exact h1 (by rw [hk, e]; rfl)
  have hr := h.row
  have hlen : (us ++ [(l, dv)]).length = n := by simp [hn]
  rw [hlen] at hr
  refine ⟨?_, ?_, ?_, ?_⟩
  · have := row_set (.int .i64 c) hr (j := us.length * 3 + 1) (by omega)
    rw [rowT_set1] at this
    rw [show (us ++ [((⟨l.f, c, l.d⟩ : Tok), dv)]).length = n by simp [hn]]
    exact this
  · intro p hp
    rcases List.mem_append.1 hp with hp | hp
    · exact buf_same (h.buf p (List.mem_append_left _ hp)) (by rw [hsz]; exact Nat.le_refl _) (fun k hk => hoth k (hne p (List.mem_append_left _ hp) k hk))
    · rw [List.mem_singleton.1 hp]
      exact buf_same (h.buf (l, dv) (by simp)) (by rw [hsz]; exact Nat.le_refl _) (fun k hk => hoth k (hne (l, dv) (by simp) k hk))
  · intro p hp
    rcases List.mem_append.1 hp with hp | hp
    · exact h.off p (List.mem_append_left _ hp)
    · rw [List.mem_singleton.1 hp]
      exact h.off (l, dv) (by simp)
  · refine List.pairwise_append.2 ⟨(List.pairwise_append.1 h.apart).1, List.pairwise_singleton _ _, fun p hp q hq => ?_⟩
    rw [List.mem_singleton.1 hq]
    exact (List.pairwise_append.1 h.apart).2.2 p hp (l, dv) (by simp)
/-- Tokens that are read: their bytes lie anywhere. -/
def IsT (w : World) (a : Option Addr) (n c : Nat) (ts : List Tok) : Prop :=
  ts.length = n ∧ n ≤ c ∧ c ≤ 9223372036854775807 ∧ ∃ g off, (0 < n → a = some ⟨g, off, none⟩) ∧ ∀ i t, ts[i]? = some t → ∃ ad m cd, w.cell? ⟨g, off + i * 3, none⟩ = some (.int .i64 t.f) ∧ w.cell? ⟨g, off + (i * 3 + 1), none⟩ = some (.int .i64 t.c) ∧ w.cell? ⟨g, off + (i * 3 + 2), none⟩ = some (.slice ad m cd) ∧ SrcB w ad m t.d ∧ m ≤ cd ∧ cd ≤ 9223372036854775807 ∧ (ad = none → cd = 0)
theorem IsT.below {w w' : World} {a : Option Addr} {n c : Nat} {ts : List Tok} (h : IsT w a n c ts) (hb : Below w.heap.size w w') : IsT w' a n c ts := by
  obtain ⟨h1, h2, h3, g, off, h4, h5⟩ := h
  refine ⟨h1, h2, h3, g, off, h4, fun i t ht => ?_⟩
  obtain ⟨ad, m, cd, c0, c1, c2, hs, r⟩ := h5 i t ht
  exact ⟨ad, m, cd, keepC hb (Nat.le_refl _) c0, keepC hb (Nat.le_refl _) c1, keepC hb (Nat.le_refl _) c2, hs.below hb, r⟩
theorem OwnT.is {w : World} {N : Nat} {v : Value} {ps : List TV} (h : OwnT w N v ps) : ∃ a c, v = .slice a ps.length c ∧ (a = none → c = 0) ∧ IsT w a ps.length c (ps.map (·.1)) := by
  rcases h.form with ⟨rfl, rfl⟩ | ⟨g, cap, rfl, hg, hlt, hl, hm, hr, -⟩
  · exact ⟨none, 0, rfl, fun _ => rfl, rfl, Nat.le_refl _, by omega, 0, 0, fun h => absurd h (by simp), fun i t ht => by simp at ht⟩
  · unfold maxLen at hm
    refine ⟨some ⟨g, 0, none⟩, cap, rfl, (fun h => by cases h), by simp, hl, by omega, g, 0, fun _ => rfl, fun i t ht => ?_⟩
    obtain ⟨p, hp, rfl⟩ : ∃ p, ps[i]? = some p ∧ p.1 = t := by simpa using ht
    obtain ⟨r0, r1, r2⟩ := rowT_at hp
    obtain ⟨ad, cd, hv, hs, hc, hcm, hn⟩ := (h.buf p (List.mem_of_getElem? hp)).form
    unfold maxLen at hcm
    refine ⟨ad, p.1.d.length, cd, hr _ _ r0, hr _ _ r1, by rw [← hv]; exact hr _ _ r2, hs, hc, by omega, fun e => (hn e).2⟩
end Go.Proofs.YtkinpbhbgeiflaaDoor.Da
/- delta.Make, plainly. -/
namespace Go.Proofs.YtkinpbhbgeiflaaDoor.Db
set_option linter.unusedVariables false
set_option linter.unusedSimpArgs false
open Go.Proofs.YtkinpbhbgeiflaaDoor.Sm Go.Proofs.YtkinpbhbgeiflaaDoor.Sh Go.Proofs.YtkinpbhbgeiflaaDoor.Ba Go.Proofs.YtkinpbhbgeiflaaDoor.Bp Go.Proofs.YtkinpbhbgeiflaaDoor.Da
/-- From what is left on, behind some tokens. -/
def mkT (fd : List Nat → Option Nat) (s : Nat) : Nat → List Nat → List Tok → List Tok
  | 0, _, ts => ts
  | n + 1, R, ts => if R = [] then ts else match fd (R.take s) with
    | some i => mkT fd s n (R.drop s) (joinT ts ⟨(i : Int), 1, []⟩)
    | none => mkT fd s n (R.drop 1) (joinT ts ⟨0, 0, R.take 1⟩)
theorem mkT_nil (fd : List Nat → Option Nat) (s n : Nat) (ts : List Tok) : mkT fd s n [] ts = ts := by cases n <;> simp [mkT]
theorem mkT_some {fd : List Nat → Option Nat} {s n i : Nat} {R : List Nat} {ts : List Tok} (hR : R ≠ []) (h : fd (R.take s) = some i) : mkT fd s (n + 1) R ts = mkT fd s n (R.drop s) (joinT ts ⟨(i : Int), 1, []⟩) := by
  rw [mkT, if_neg hR, h]
theorem mkT_none {fd : List Nat → Option Nat} {s n : Nat} {R : List Nat} {ts : List Tok} (hR : R ≠ []) (h : fd (R.take s) = none) : mkT fd s (n + 1) R ts = mkT fd s n (R.drop 1) (joinT ts ⟨0, 0, R.take 1⟩) := by
  rw [mkT, if_neg hR, h]
theorem joinT_length (ts : List Tok) (x : Tok) : (joinT ts x).length ≤ ts.length + 1 := by
  rcases List.eq_nil_or_concat ts with rfl | ⟨us, l, rfl⟩
  · simp [joinT]
  · rw [List.concat_eq_append, joinT_snoc]
    split <;> simp
/-- Some bytes, or some blocks, and nothing else. -/
def _root_.Go.Proofs.YtkinpbhbgeiflaaDoor.Da.Tok.wf (t : Tok) : Prop := All8 t.d ∧ (t.isB = true ∨ (1 ≤ t.c ∧ 0 ≤ t.f ∧ t.f + t.c ≤ 4096 ∧ t.d = []))
theorem wf_isB {t : Tok} (h : t.wf) : t.isB = decide (t.c = 0) := by
  rcases h.2 with h1 | ⟨h1, h2, h3, h4⟩
  · rw [h1]; simp only [Tok.isB, decide_eq_true_eq] at h1; simp [h1]
  · simp only [Tok.isB, h4, List.length_nil, decide_eq_decide]; constructor <;> intro <;> omega
theorem wf_isK {t : Tok} (h : t.wf) : t.isK = decide (0 < t.c) := by
  rcases h.2 with h1 | ⟨h1, h2, h3, h4⟩
  · simp only [Tok.isB, decide_eq_true_eq] at h1; simp only [Tok.isK, decide_eq_decide]; constructor <;> intro <;> omega
  · simp only [Tok.isK, h4, List.length_nil, and_true, decide_eq_decide]; constructor <;> intro <;> omega
/-- The reference's ways. -/
theorem fuse_ref {l x : Tok} (hl : l.wf) (hx : x.wf) : fuse l x = if 0 < x.c ∧ 0 < l.c ∧ l.f + l.c = x.f then some ⟨l.f, l.c + x.c, l.d⟩ else if x.c = 0 ∧ l.c = 0 then some ⟨l.f, l.c, l.d ++ x.d⟩ else none := by
  unfold fuse
  rw [wf_isB hl, wf_isB hx, wf_isK hl, wf_isK hx]
  simp only [decide_eq_true_eq]
  by_cases h1 : l.c = 0 ∧ x.c = 0
  · rw [if_pos h1, if_neg (by omega), if_pos ⟨h1.2, h1.1⟩]
  · rw [if_neg h1]
    by_cases h2 : 0 < l.c ∧ 0 < x.c ∧ x.f = l.f + l.c
    · rw [if_pos h2, if_pos (by omega)]
    · rw [if_neg h2, if_neg (by omega), if_neg (by omega)]
theorem fuse_wf {l x y : Tok} (hl : l.wf) (hx : x.wf) (h : fuse l x = some y) : y.wf := by
  rw [fuse_ref hl hx] at h
  split at h
  · rename_i h1
    injection h with h
    subst h
    rcases hl.2 with h2 | ⟨h2, h3, h4, h5⟩
    · simp [Tok.isB] at h2; omega
    rcases hx.2 with h6 | ⟨h6, h7, h8, h9⟩
    · simp [Tok.isB] at h6; omega
    exact ⟨hl.1, .inr ⟨by simp only; omega, h3, by simp only; omega, h5⟩⟩
  · split at h
    · rename_i h1 h2
      injection h with h
      subst h
      have hb := wf_isB hl
      rw [decide_eq_true h2.2] at hb
      simp [Tok.isB] at hb
      refine ⟨all8_append hl.1 hx.1, .inl ?_⟩
      simp only [Tok.isB, decide_eq_true_eq, List.length_append]; omega
    · cases h
theorem joinT_wf {ts : List Tok} {x : Tok} (h : ∀ t ∈ ts, t.wf) (hx : x.wf) : ∀ t ∈ joinT ts x, t.wf := by
  rcases List.eq_nil_or_concat ts with rfl | ⟨us, l, rfl⟩
  · intro t ht
    rw [joinT_nil, List.mem_singleton] at ht
    rw [ht]; exact hx
  · rw [List.concat_eq_append] at h ⊢
    rw [joinT_snoc]
    have hl := h l (by simp)
    split
    · rename_i y hy
      intro t ht
      rcases List.mem_append.1 ht with ht | ht
      · exact h t (List.mem_append_left _ ht)
      · rw [List.mem_singleton.1 ht]; exact fuse_wf hl hx hy
    · intro t ht
      simp only [List.mem_append, List.mem_cons, List.not_mem_nil, or_false] at ht
      rcases ht with ht | rfl | rfl
      · exact h t (List.mem_append_left _ ht)
      · exact hl
      · exact hx
theorem wf_one {R : List Nat} (h8 : All8 R) (hR : R ≠ []) : (⟨0, 0, R.take 1⟩ : Tok).wf := by
  refine ⟨all8_take h8 1, .inl ?_⟩
  have := List.length_pos_iff.2 hR
  exact decide_eq_true ⟨rfl, rfl, (show 0 < (R.take 1).length by rw [List.length_take]; omega)⟩
theorem wf_blk {i : Nat} (h : i < 4096) : (⟨(i : Int), 1, []⟩ : Tok).wf := ⟨(by intro x hx; cases hx), .inr ⟨Int.le_refl _, Int.natCast_nonneg _, (show (i : Int) + 1 ≤ 4096 by omega), rfl⟩⟩
theorem mkT_wf {fd : List Nat → Option Nat} {s : Nat} (hfd : ∀ P i, fd P = some i → i < 4096) : ∀ (n : Nat) (R : List Nat) (ts : List Tok), All8 R → (∀ t ∈ ts, t.wf) → ∀ t ∈ mkT fd s n R ts, t.wf
  | 0, R, ts, _, h => h
  | n + 1, R, ts, h8, h => by
    by_cases hR : R = []
    · rw [mkT, if_pos hR]; exact h
    · cases hf : fd (R.take s) with
      | none => rw [mkT_none hR hf]; exact mkT_wf hfd n _ _ (all8_drop h8 1) (joinT_wf h (wf_one h8 hR))
      | some i => rw [mkT_some hR hf]; exact mkT_wf hfd n _ _ (all8_drop h8 s) (joinT_wf h (wf_blk (hfd _ _ hf)))
theorem mkT_length (fd : List Nat → Option Nat) (s : Nat) : ∀ (n : Nat) (R : List Nat) (ts : List Tok), (mkT fd s n R ts).length ≤ ts.length + n
  | 0, R, ts => by simp [mkT]
  | n + 1, R, ts => by
    by_cases hR : R = []
    · rw [mkT, if_pos hR]; omega
    · cases hf : fd (R.take s) with
      | none =>
        rw [mkT_none hR hf]
        have := mkT_length fd s n (R.drop 1) (joinT ts ⟨0, 0, R.take 1⟩)
        have := joinT_length ts ⟨0, 0, R.take 1⟩
        omega
      | some i =>
        rw [mkT_some hR hf]
        have := mkT_length fd s n (R.drop s) (joinT ts ⟨(i : Int), 1, []⟩)
        have := joinT_length ts ⟨(i : Int), 1, []⟩
        omega
/-- A file told by what is found. -/
def mkA (fd : List Nat → Option Nat) (s : Nat) (D : List Nat) : List Tok := mkT fd s D.length D []
end Go.Proofs.YtkinpbhbgeiflaaDoor.Db
/- delta's isBytes, isBlocks. -/
namespace Go.Proofs.YtkinpbhbgeiflaaDoor.Dc
set_option linter.unusedVariables false
set_option linter.unusedSimpArgs false
set_option maxRecDepth 100000
open Go.ChangeShapes Go.WideShapes Go.ChangeAt Go.RowKit
open Go.Proofs.YtkinpbhbgeiflaaDoor.Wu Go.Proofs.YtkinpbhbgeiflaaDoor.Sm Go.Proofs.YtkinpbhbgeiflaaDoor.Sh Go.Proofs.YtkinpbhbgeiflaaDoor.Ba Go.Proofs.YtkinpbhbgeiflaaDoor.Bp Go.Proofs.YtkinpbhbgeiflaaDoor.Bq Go.Proofs.YtkinpbhbgeiflaaDoor.Kv Go.Proofs.YtkinpbhbgeiflaaDoor.Da Go.Proofs.YtkinpbhbgeiflaaDoor.Db
def tokV (t : Tok) (ad : Option Addr) (m cd : Nat) : Value := .agg #[.int .i64 t.f, .int .i64 t.c, .slice ad m cd]
theorem isB_c (w : World) (t : Tok) (ad : Option Addr) (m cd : Nat) (hm : t.d.length = m) :
    Calls Tryd.prog 60 #[tokV t ad m cd] w fun e w' => e = .returned (.bool t.isB) ∧ Below w.heap.size w w' := by
  obtain ⟨f, c, d⟩ := t
  have HB := hide (below_new w (.cells #[.int .i64 f, .int .i64 c, .slice ad m cd] 68))
  have HR : Hid (Tok.isB ⟨f, c, d⟩ = (decide (f = 0) && decide (c = 0) && decide (0 < m))) := hide (by simp only at hm; subst hm; unfold Tok.isB; simp only [Bool.decide_and, Bool.and_assoc])
  clear hm
  rw [HR.out]
  clear HR
  unfold tokV
  have c1 : f = 0 ∨ (f == 0) = false := by by_cases h : f = 0; exact .inl h; exact .inr (by simpa using h)
  have c2 : c = 0 ∨ (c == 0) = false := by by_cases h : c = 0; exact .inl h; exact .inr (by simpa using h)
  rcases c1 with rfl | e1
  · rcases c2 with rfl | e2
    · by_cases h : 0 < m
      · have e3 : decide ((0 : Int) < (m : Int)) = true := by simpa using h
        have e4 : decide (0 < m) = true := by simpa using h
        go_enter Tryd.func60, Tryd.ntmps60
        go_wp2
        go_ret
        exact ⟨by simp [e4], HB.out⟩
      · have e3 : decide ((0 : Int) < (m : Int)) = false := by simp; omega
        have e4 : decide (0 < m) = false := by simpa using h
        go_enter Tryd.func60, Tryd.ntmps60
        go_wp2
        go_ret
        exact ⟨by simp [e4], HB.out⟩
    · have e3 : decide (c = 0) = false := by simpa using e2
      go_enter Tryd.func60, Tryd.ntmps60
      go_wp2
      go_ret
      exact ⟨by simp [e3], HB.out⟩
  · have e3 : decide (f = 0) = false := by simpa using e1
    go_enter Tryd.func60, Tryd.ntmps60
    go_wp2
    go_ret
    exact ⟨by simp [e3], HB.out⟩
theorem isK_c (w : World) (t : Tok) (ad : Option Addr) (m cd : Nat) (hm : t.d.length = m) :
    Calls Tryd.prog 59 #[tokV t ad m cd] w fun e w' => e = .returned (.bool t.isK) ∧ Below w.heap.size w w' := by
  obtain ⟨f, c, d⟩ := t
  have HB := hide (below_new w (.cells #[.int .i64 f, .int .i64 c, .slice ad m cd] 68))
  have HR : Hid (Tok.isK ⟨f, c, d⟩ = (decide (1 ≤ c) && decide (c ≤ 1099511627776) && decide (0 ≤ f) && decide (f ≤ 1099511627776) && decide (m = 0))) := hide (by simp only at hm; subst hm; unfold Tok.isK; simp only [Bool.decide_and, Bool.and_assoc])
  clear hm
  rw [HR.out]
  clear HR
  unfold tokV
  have tf : ∀ p : Prop, ∀ (_ : Decidable p), decide p = true ∨ decide p = false := fun p _ => by cases decide p; exact .inr rfl; exact .inl rfl
  rcases tf (1 ≤ c) _ with e1 | e1
  · rcases tf (c ≤ 1099511627776) _ with e2 | e2
    · rcases tf (0 ≤ f) _ with e3 | e3
      · rcases tf (f ≤ 1099511627776) _ with e4 | e4
        · by_cases h : m = 0
          · subst h
            rw [e1, e2, e3, e4]
            go_enter Tryd.func59, Tryd.ntmps59
            go_wp2
            go_ret
            exact ⟨by simp, HB.out⟩
          · have e5 : ((m : Int) == 0) = false := by simpa using h
            have e6 : (m == 0) = false := by simpa using h
            have e7 : decide (m = 0) = false := by simpa using h
            rw [e1, e2, e3, e4, e7]
            go_enter Tryd.func59, Tryd.ntmps59
            go_wp2
            go_ret
            exact ⟨by simp, HB.out⟩
        · rw [e1, e2, e3, e4]
          go_enter Tryd.func59, Tryd.ntmps59
          go_wp2
          go_ret
          exact ⟨by simp, HB.out⟩
      · rw [e1, e2, e3]
        go_enter Tryd.func59, Tryd.ntmps59
        go_wp2
        go_ret
        exact ⟨by simp, HB.out⟩
    · rw [e1, e2]
      go_enter Tryd.func59, Tryd.ntmps59
      go_wp2
      go_ret
      exact ⟨by simp, HB.out⟩
  · rw [e1]
    go_enter Tryd.func59, Tryd.ntmps59
    go_wp2
    go_ret
    exact ⟨by simp, HB.out⟩
end Go.Proofs.YtkinpbhbgeiflaaDoor.Dc
/- delta's join. -/
namespace Go.Proofs.YtkinpbhbgeiflaaDoor.Dd
set_option linter.unusedVariables false
set_option linter.unusedSimpArgs false
set_option maxRecDepth 100000
open Go.ChangeShapes Go.WideShapes Go.ChangeAt Go.RowKit
open Go.Proofs.YtkinpbhbgeiflaaDoor.Wu Go.Proofs.YtkinpbhbgeiflaaDoor.Sm Go.Proofs.YtkinpbhbgeiflaaDoor.Sh Go.Proofs.YtkinpbhbgeiflaaDoor.Ba Go.Proofs.YtkinpbhbgeiflaaDoor.Bp Go.Proofs.YtkinpbhbgeiflaaDoor.Bq Go.Proofs.YtkinpbhbgeiflaaDoor.Kv Go.Proofs.YtkinpbhbgeiflaaDoor.Rk Go.Proofs.YtkinpbhbgeiflaaDoor.Rh Go.Proofs.YtkinpbhbgeiflaaDoor.Rw Go.Proofs.YtkinpbhbgeiflaaDoor.Da Go.Proofs.YtkinpbhbgeiflaaDoor.Db Go.Proofs.YtkinpbhbgeiflaaDoor.Dc
attribute [local go_sem] kUpon_value kUpon_skip kUpon_enter
theorem nil_nil (u : World) (c : Nat) : Sem.run Tryd.prog (binOp BinOp.eql 22 (.slice none 0 c) (.slice none 0 0)) u = .ok (.bool true) u := by kernel_rfl
theorem clone_none (w : World) (c : Nat) : Calls Tryd.prog 70 #[.slice none 0 c] w fun e w' => e = .returned (.slice none 0 0) ∧ w' = w := by
  have HN := hide (nil_nil w c)
  go_enter Tryd.func70, Tryd.ntmps70
  go_wp2_with fail
  rw [HN.out]
  go_wp2
  go_ret
  exact ⟨rfl, rfl⟩
theorem some_nil (ad : Addr) (m c : Nat) (u : World) : Sem.run Tryd.prog (binOp BinOp.eql 22 (.slice (some ad) m c) (.slice none 0 0)) u = .ok (.bool false) u := by kernel_rfl
/-- bytes.Clone of what is not nil. -/
theorem clone_some (ad : Addr) (m c : Nat) (L : List Nat) (w : World) (hs : SrcB w (some ad) m L) (hm : m ≤ 70368744177664) :
    Calls Tryd.prog 70 #[.slice (some ad) m c] w fun e w' => ∃ g cap, e = .returned (.slice (some ⟨g, 0, none⟩) m cap) ∧ w.heap.size ≤ g ∧ Dst w' g m cap L ∧ Below w.heap.size w w' := by
  have HS := hide (hs.below (below_new w (.cells #[] 5)))
  clear hs
  have HD0 : Hid (Dst (w.alloc (.cells #[] 5)) w.heap.size 0 0 []) := hide (dst_new w [] #[] 5 (0, 0) rfl (by intro x hx; cases hx) (by simp [maxLen]))
  have HN := hide (some_nil ad m c w)
  go_enter Tryd.func70, Tryd.ntmps70
  go_wp2_with fail
  rw [HN.out]
  go_wp2_with (refine wpList_append_dst rfl _ _ rfl w.heap.size 0 0 [] (some ad) m c L rfl rfl HD0.out HS.out (by omega) (fun h => by cases h) ?_)
  intro g cap w2 HD HG hgg HK
  refine of_hid ?_
  have hg : w.heap.size ≤ g := by
    rcases hgg with h | h
    · omega
    · omega
  have hb0 := below_new w (.cells #[] 5)
  have HB := hide (belowG hb0 HG.out (Nat.le_refl _) hb0.size)
  clear hb0
  go_wp2
  go_ret
  exact ⟨g, cap, rfl, hg, HD.out, HB.out⟩
/-- What comes of it: the tokens with one more, in memory of the call's own. -/
def JoinP (w : World) (N : Nat) (v : Value) (ps : List TV) (x : Tok) (e : Ending) (w' : World) : Prop :=
  ∃ v' ps', e = .returned v' ∧ ps'.map (·.1) = joinT (ps.map (·.1)) x ∧ OwnT w' N v' ps' ∧ KeepT w v ps w' ∧ (∀ g, v'.ownBlock = some g → v.ownBlock = some g ∨ w.heap.size ≤ g) ∧ (∀ p ∈ ps', ∀ g, p.2.ownBlock = some g → (∃ q ∈ ps, q.2.ownBlock = some g) ∨ w.heap.size ≤ g)
theorem load_last {w : World} {N : Nat} {g cap n : Nat} {us : List TV} {l : Tok} {dv : Value} (h : OwnT w N (.slice (some ⟨g, 0, none⟩) n cap) (us ++ [(l, dv)])) : n = us.length + 1 ∧ w.rangeAt g (us.length * 3) [.int .i64 l.f, .int .i64 l.c, dv] := by
  rcases h.form with ⟨h1, _⟩ | ⟨g', cap', hv, -, -, -, -, hr, -⟩
  · cases h1
  · injection hv with e1 e2 e3
    injection e1 with e1
    injection e1 with e1
    subst e1
    refine ⟨by rw [e2]; simp, fun j v hj => ?_⟩
    have e := hr (us.length * 3 + j) v (by
      rw [rowT_append, List.getElem?_append_right (by rw [rowT_length]; omega), rowT_length, show us.length * 3 + j - us.length * 3 = j by omega]
      exact hj)
    rwa [Nat.zero_add] at e
/-- Where join stands ahead of its writing. -/
structure JS (w : World) (N : Nat) (v : Value) (ps : List TV) (x : Tok) (ad : Option Addr) (m cd : Nat) (u : World) : Prop where
  own : OwnT u N v ps
  cx : u.heap[w.heap.size]? = some (.cells #[.int .i64 x.f, .int .i64 x.c, .slice ad m cd] 68 (0, 0))
  src : SrcB u ad m x.d
  below : Below w.heap.size w u
theorem JS.up {w : World} {N : Nat} {v : Value} {ps : List TV} {x : Tok} {ad : Option Addr} {m cd : Nat} {u u' : World} (h : JS w N v ps x ad m cd u) (hb : Below u.heap.size u u') : JS w N v ps x ad m cd u' :=
  ⟨h.own.below hb, below_blk hb (heap_lt h.cx) h.cx, h.src.below hb, keepB hb (Nat.le_refl _) h.below⟩
theorem JS.enter {w : World} {N : Nat} {v : Value} {ps : List TV} {x : Tok} {ad : Option Addr} {m cd : Nat} (h : OwnT w N v ps) (hx : SrcB w ad m x.d) : JS w N v ps x ad m cd (w.alloc (.cells #[.int .i64 x.f, .int .i64 x.c, .slice ad m cd] 68)) :=
  ⟨h.below (below_new w _), heap_last w _, hx.below (below_new w _), below_new w _⟩
theorem JS.xs {w : World} {N : Nat} {v : Value} {ps : List TV} {x : Tok} {ad : Option Addr} {m cd : Nat} {u : World} (h : JS w N v ps x ad m cd u) : u.cell? ⟨w.heap.size, 0, none⟩ = some (.int .i64 x.f) ∧ u.cell? ⟨w.heap.size, 1, none⟩ = some (.int .i64 x.c) ∧ u.cell? ⟨w.heap.size, 2, none⟩ = some (.slice ad m cd) :=
  ⟨blk_cell h.cx rfl, blk_cell h.cx rfl, blk_cell h.cx rfl⟩
theorem last_cells {u : World} {N : Nat} {g cap n k : Nat} {us : List TV} {l : Tok} {dv : Value} (h : OwnT u N (.slice (some ⟨g, 0, none⟩) n cap) (us ++ [(l, dv)])) (hk : k = us.length) :
    u.cell? ⟨g, k * 3, none⟩ = some (.int .i64 l.f) ∧ u.cell? ⟨g, k * 3 + 1, none⟩ = some (.int .i64 l.c) ∧ u.cell? ⟨g, k * 3 + 2, none⟩ = some dv ∧ ∀ o, u.frozen? ⟨g, o, none⟩ = false := by
  subst hk
  have hr := (load_last h).2
  refine ⟨hr 0 _ rfl, hr 1 _ rfl, hr 2 _ rfl, ?_⟩
  rcases h.form with ⟨h1, _⟩ | ⟨g', cap', hv, -, -, -, -, -, hf⟩
  · cases h1
  · injection hv with e1 e2 e3
    injection e1 with e1
    injection e1 with e1
    subst e1
    exact hf
/-- The stages of the region that appends to the last one's bytes. -/
def DT (w : World) (N g n cap : Nat) (us : List TV) (l : Tok) (dv : Value) (x : Tok) (ad : Option Addr) (m cd : Nat) : List Value → World → Prop
  | [], u => JS w N (.slice (some ⟨g, 0, none⟩) n cap) (us ++ [(l, dv)]) x ad m cd u
  | [d], u => ∃ u0, JS w N (.slice (some ⟨g, 0, none⟩) n cap) (us ++ [(l, dv)]) x ad m cd u0 ∧ u0.grownBy u dv.ownBlock ∧ Buf u d N (l.d ++ x.d) ∧ (d.ownBlock = dv.ownBlock ∨ d.ownBlock = some u0.heap.size)
  | [d, _], u => OwnT u N (.slice (some ⟨g, 0, none⟩) n cap) (us ++ [(⟨l.f, l.c, l.d ++ x.d⟩, d)]) ∧ KeepT w (.slice (some ⟨g, 0, none⟩) n cap) (us ++ [(l, dv)]) u ∧ (d.ownBlock = dv.ownBlock ∨ ∃ k, d.ownBlock = some k ∧ w.heap.size ≤ k)
  | _, _ => False
theorem fuse_B {l x : Tok} (hl : l.isB = true) (hx : x.isB = true) : fuse l x = some ⟨l.f, l.c, l.d ++ x.d⟩ := by unfold fuse; rw [if_pos ⟨hl, hx⟩]
theorem join_post {w u : World} {N g n cap : Nat} {us : List TV} {l y : Tok} {dv d : Value} {x : Tok} (hf : fuse l x = some y) (ho : OwnT u N (.slice (some ⟨g, 0, none⟩) n cap) (us ++ [(y, d)])) (hk : KeepT w (.slice (some ⟨g, 0, none⟩) n cap) (us ++ [(l, dv)]) u) (hd : d.ownBlock = dv.ownBlock ∨ ∃ k, d.ownBlock = some k ∧ w.heap.size ≤ k) :
    JoinP w N (.slice (some ⟨g, 0, none⟩) n cap) (us ++ [(l, dv)]) x (.returned (.slice (some ⟨g, 0, none⟩) n cap)) u := by
  refine ⟨_, us ++ [(y, d)], rfl, ?_, ho, hk, fun g hg => .inl hg, fun p hp q hq => ?_⟩
  · rw [List.map_append, List.map_append]
    show _ = joinT (us.map (·.1) ++ [l]) x
    rw [joinT_snoc, hf]
    rfl
  · rcases List.mem_append.1 hp with hp | hp
    · exact .inl ⟨p, List.mem_append_left _ hp, hq⟩
    · rw [List.mem_singleton.1 hp] at hq
      rcases hd with e | ⟨k, e, hk⟩
      · exact .inl ⟨(l, dv), by simp, by rw [← e]; exact hq⟩
      · rw [e] at hq
        injection hq with hq
        subst hq
        exact .inr hk
set_option maxHeartbeats 1600000 in
theorem join_B (w : World) (N g n cap : Nat) (us : List TV) (l : Tok) (dv : Value) (x : Tok) (ad : Option Addr) (m cd : Nat) (h : OwnT w N (.slice (some ⟨g, 0, none⟩) n cap) (us ++ [(l, dv)])) (hN : N ≤ w.heap.size) (hx : SrcB w ad m x.d) (hm : m ≤ cd) (hcd : cd ≤ 9223372036854775807) (hn : ad = none → m = 0) (hus : us.length ≤ 1000000) (hl : l.d.length ≤ 1000000) (hmb : m ≤ 1000000) (hlB : l.isB = true) (hxB : x.isB = true) :
    Calls Tryd.prog 53 #[.slice (some ⟨g, 0, none⟩) n cap, tokV x ad m cd] w (JoinP w N (.slice (some ⟨g, 0, none⟩) n cap) (us ++ [(l, dv)]) x) := by
  have hxl := hx.1
  have hx0 : 0 < m := by
    simp only [Tok.isB, decide_eq_true_eq] at hxB
    omega
  have HJ := hide (JS.enter (cd := cd) h hx)
  have hbuf := h.buf (l, dv) (by simp)
  obtain ⟨al, cl, hdv, -⟩ := hbuf.form
  obtain ⟨hnn, -⟩ := load_last h
  have HF := hide (fuse_B hlB hxB)
  have HIl := hide (fun u : World => isB_c u l al l.d.length cl rfl)
  have HIx := hide (fun u : World => isB_c u x ad m cd hxl)
  rw [hlB] at HIl
  rw [hxB] at HIx
  obtain ⟨k, hk⟩ : ∃ k, k = us.length := ⟨_, rfl⟩
  have Hk := hide hk
  rw [← hk] at hus hnn
  subst hnn
  obtain ⟨ll, hll⟩ : ∃ ll, ll = l.d.length := ⟨_, rfl⟩
  have Hll := hide hll
  rw [← hll] at HIl hl hdv
  simp only at hdv
  subst hdv
  clear hk h hx hbuf hll
  unfold tokV at *
  obtain ⟨r0, r1, r2, rf⟩ := last_cells HJ.out.own Hk.out
  go_enter Tryd.func53, Tryd.ntmps53
  go_wp2_with fail
  refine (HIl.out _).mono ?_
  rintro e w2 ⟨rfl, hb2⟩
  have HJ2 := hide (HJ.out.up hb2)
  clear hb2 HJ r0 r1 r2 rf
  obtain ⟨x0, x1, x2⟩ := HJ2.out.xs
  go_wp2_with fail
  refine (HIx.out _).mono ?_
  rintro e w3 ⟨rfl, hb3⟩
  have HJ3 := hide (HJ2.out.up hb3)
  clear hb3 HJ2 x0 x1 x2
  have i2 : (k : Int) < (k : Int) + 1 := by omega
  go_wp2_with fail
  refine wp_region_h (DT w N g (k + 1) cap us l (.slice al ll cl) x ad m cd)
    [some (some (.slice (some ⟨g, 0, none⟩) (k + 1) cap)), some (some (.int .i64 (k : Int))), some (some (.slice (some ⟨g, 0, none⟩) (k + 1) cap)), some (some (.int .i64 (k : Int))), some (some (.pointer (some ⟨g, k * 3, none⟩))), some (some (.pointer (some ⟨g, k * 3 + 2, none⟩))), some (some (.slice al ll cl)), some (some (.pointer (some ⟨w.heap.size, 2, none⟩))), some (some (.slice ad m cd)), none, some (some (.pointer (some ⟨g, k * 3, none⟩))), some (some (.pointer (some ⟨g, k * 3 + 2, none⟩))), none]
    [2, 2, 2, 2, 2, 2, 0, 2, 0, 0, 2, 2, 0] (by kernel_rfl) (by kernel_rfl) [9, 12] [9, 12] rfl rfl (by kernel_rfl) (by kernel_rfl) (HJ3.out.up (Below.refl _ _).drew) ?_
  refine gF_step (by rfl) (fun h u K hL hT hK => ?_) ?_
  · go_simp
    exact hK _ hT
  simp only [Act.put, List.setIfInBounds_toArray, List.set_cons_zero, List.set_cons_succ]
  refine gF_step (by rfl) (fun h u K hL hT hK => ?_) ?_
  · go_simp
    exact hK _ hT
  simp only [Act.put, List.setIfInBounds_toArray, List.set_cons_zero, List.set_cons_succ]
  refine gF_step (by rfl) (fun h u K hL hT hK => ?_) ?_
  · go_simp
    exact hK _ hT
  simp only [Act.put, List.setIfInBounds_toArray, List.set_cons_zero, List.set_cons_succ]
  refine gF_step (by rfl) (fun h u K hL hT hK => ?_) ?_
  · go_simp
    exact hK _ hT
  simp only [Act.put, List.setIfInBounds_toArray, List.set_cons_zero, List.set_cons_succ]
  refine gF_step (by rfl) (fun h u K hL hT hK => ?_) ?_
  · go_simp
    exact hK _ hT
  simp only [Act.put, List.setIfInBounds_toArray, List.set_cons_zero, List.set_cons_succ]
  refine gF_step (by rfl) (fun h u K hL hT hK => ?_) ?_
  · go_simp
    exact hK _ hT
  simp only [Act.put, List.setIfInBounds_toArray, List.set_cons_zero, List.set_cons_succ]
  refine gF_step (by rfl) (fun h u K hL hT hK => ?_) ?_
  · obtain rfl : h = [] := List.length_eq_zero_iff.1 (by omega)
    have hT0 : JS w N (.slice (some ⟨g, 0, none⟩) (k + 1) cap) (us ++ [(l, .slice al ll cl)]) x ad m cd u := hT
    obtain ⟨x0, x1, x2⟩ := hT0.xs
    obtain ⟨r0, r1, r2, rf⟩ := last_cells hT0.own Hk.out
    go_simp
    exact hK _ hT
  simp only [Act.put, List.setIfInBounds_toArray, List.set_cons_zero, List.set_cons_succ]
  refine gF_step (by rfl) (fun h u K hL hT hK => ?_) ?_
  · go_simp
    exact hK _ hT
  simp only [Act.put, List.setIfInBounds_toArray, List.set_cons_zero, List.set_cons_succ]
  refine gF_step (by rfl) (fun h u K hL hT hK => ?_) ?_
  · obtain rfl : h = [] := List.length_eq_zero_iff.1 (by omega)
    have hT0 : JS w N (.slice (some ⟨g, 0, none⟩) (k + 1) cap) (us ++ [(l, .slice al ll cl)]) x ad m cd u := hT
    obtain ⟨x0, x1, x2⟩ := hT0.xs
    obtain ⟨r0, r1, r2, rf⟩ := last_cells hT0.own Hk.out
    go_simp
    exact hK _ hT
  simp only [Act.put, List.setIfInBounds_toArray, List.set_cons_zero, List.set_cons_succ]
  refine gD_step (fun d => ∃ q n c, d = .slice (some ⟨q, 0, none⟩) n c) ⟨_, 0, 0, 0, rfl⟩ (by rfl) (fun u K hT hK => ?_) (fun d hd => ?_)
  · have hT0 : JS w N (.slice (some ⟨g, 0, none⟩) (k + 1) cap) (us ++ [(l, .slice al ll cl)]) x ad m cd u := hT
    have hbuf := hT0.own.buf (l, .slice al ll cl) (by simp)
    have hNu : N ≤ u.heap.size := Nat.le_trans hN hT0.below.size
    obtain ⟨d, u', hrun, hB', hg', ho'⟩ := append_own u _ (.slice al ll cl) N l.d ad m cd x.d hbuf hNu hT0.src hn (by have := Hll.out; omega) (.inl hx0)
    obtain ⟨q, c', hd, hq⟩ : ∃ q c', d = .slice (some ⟨q, 0, none⟩) (l.d ++ x.d).length c' ∧ True := by
      rcases hB' with ⟨_, h0⟩ | ⟨q, c', h0, _⟩
      · have := congrArg List.length h0
        rw [List.length_append, List.length_nil] at this
        omega
      · exact ⟨q, c', h0, trivial⟩
    refine kUpon_append 22 (.tmp 40) (.tmp 42) rfl hrun (hK _ _ ⟨q, _, c', hd⟩ ?_)
    exact ⟨u, hT0, hg', hB', ho'⟩
  obtain ⟨q, dn, dc, rfl⟩ := hd
  simp only [Act.put, List.setIfInBounds_toArray, List.set_cons_zero, List.set_cons_succ]
  refine gF_step (by rfl) (fun h u K hL hT hK => ?_) ?_
  · go_simp
    exact hK _ hT
  simp only [Act.put, List.setIfInBounds_toArray, List.set_cons_zero, List.set_cons_succ]
  refine gF_step (by rfl) (fun h u K hL hT hK => ?_) ?_
  · go_simp
    exact hK _ hT
  simp only [Act.put, List.setIfInBounds_toArray, List.set_cons_zero, List.set_cons_succ]
  refine gE_step (v := undef) (by rfl) (fun u K hT hK => ?_) ?_
  · obtain ⟨u0, hT0, hg', hB', ho'⟩ := hT
    obtain ⟨r0, r1, r2, rf⟩ := last_cells hT0.own Hk.out
    have hne : some g ≠ (Value.slice al ll cl).ownBlock := fun e => by
      rcases hT0.own.off (l, .slice al ll cl) (by simp) with h1 | h1
      · rw [show (Value.slice al ll cl).ownBlock = none from h1] at e; cases e
      · exact h1 e.symm
    have hbk := hg'.block g (hT0.own.own g rfl).2 hne
    have c2 : u.cell? ⟨g, k * 3 + 2, none⟩ = some (.slice al ll cl) := by rw [World.cell?_of_block (a := ⟨g, k * 3 + 2, none⟩) hbk]; exact r2
    have c3 : u.frozen? ⟨g, k * 3 + 2, none⟩ = false := by rw [World.frozen?_of_block (a := ⟨g, k * 3 + 2, none⟩) hbk]; exact rf _
    have hfin := OwnT.setD hT0.own hg' hB' ho'
    rw [← Hk.out] at hfin
    have hkeep : KeepT w (.slice (some ⟨g, 0, none⟩) (k + 1) cap) (us ++ [(l, .slice al ll cl)]) (u.setCell ⟨g, k * 3 + 2, none⟩ (.slice (some ⟨q, 0, none⟩) dn dc)) :=
      KeepT.set (KeepT.from_below hT0.below (KeepT.of_data (p := (l, .slice al ll cl)) (by simp) hg')) rfl _ _
    go_simp
    refine hK _ ⟨hfin, hkeep, ?_⟩
    rcases ho' with e | e
    · exact .inl e
    · exact .inr ⟨_, e, hT0.below.size⟩
  simp only [Act.put, List.setIfInBounds_toArray, List.set_cons_zero, List.set_cons_succ]
  refine g_nil (fun w4 hT4 => ?_)
  obtain ⟨h41, h42, h43⟩ := hT4
  have HP := hide (join_post HF.out h41 h42 h43)
  clear h41 h42 h43 HJ3 HF
  go_wp2
  go_ret
  exact HP.out
end Go.Proofs.YtkinpbhbgeiflaaDoor.Dd
/- delta's join: the default arm; blocks. -/
namespace Go.Proofs.YtkinpbhbgeiflaaDoor.De
set_option linter.unusedVariables false
set_option linter.unusedSimpArgs false
set_option maxRecDepth 100000
open Go.ChangeShapes Go.WideShapes Go.ChangeAt Go.RowKit
open Go.Proofs.YtkinpbhbgeiflaaDoor.Wu Go.Proofs.YtkinpbhbgeiflaaDoor.Sm Go.Proofs.YtkinpbhbgeiflaaDoor.Sh Go.Proofs.YtkinpbhbgeiflaaDoor.Ba Go.Proofs.YtkinpbhbgeiflaaDoor.Bp Go.Proofs.YtkinpbhbgeiflaaDoor.Bq Go.Proofs.YtkinpbhbgeiflaaDoor.Kv Go.Proofs.YtkinpbhbgeiflaaDoor.Rk Go.Proofs.YtkinpbhbgeiflaaDoor.Rh Go.Proofs.YtkinpbhbgeiflaaDoor.Rw Go.Proofs.YtkinpbhbgeiflaaDoor.Rb1 Go.Proofs.YtkinpbhbgeiflaaDoor.Da Go.Proofs.YtkinpbhbgeiflaaDoor.Db Go.Proofs.YtkinpbhbgeiflaaDoor.Dc Go.Proofs.YtkinpbhbgeiflaaDoor.Dd
attribute [local go_sem] kUpon_value kUpon_skip kUpon_enter
theorem buf_down {w : World} {v : Value} {N N' : Nat} {L : List Nat} (h : Buf w v N' L) (hN : N ≤ N') : Buf w v N L := by
  rcases h with h | ⟨g, cap, h1, h2, hd⟩
  · exact .inl h
  · exact .inr ⟨g, cap, h1, Nat.le_trans hN h2, hd⟩
/-- bytes.Clone, whatever comes. -/
theorem clone_any (w : World) (ad : Option Addr) (m cd : Nat) (L : List Nat) (hs : SrcB w ad m L) (hn : ad = none → m = 0) (hm : m ≤ 70368744177664) :
    Calls Tryd.prog 70 #[.slice ad m cd] w fun e w' => ∃ d, e = .returned d ∧ Buf w' d w.heap.size L ∧ Below w.heap.size w w' := by
  cases ad with
  | none =>
    obtain rfl := hn rfl
    obtain rfl : L = [] := List.length_eq_zero_iff.1 hs.1
    refine (clone_none w cd).mono ?_
    rintro e w' ⟨rfl, rfl⟩
    exact ⟨_, rfl, .inl ⟨rfl, rfl⟩, Below.refl _ _⟩
  | some a =>
    refine (clone_some a m cd L w hs hm).mono ?_
    rintro e w' ⟨g, cap, rfl, h1, h2, h3⟩
    have hl := hs.1
    exact ⟨_, rfl, .inr ⟨g, cap, by rw [hl], h1, by rw [hl]; exact h2⟩, h3⟩
/-- The stages of the region that puts one behind. -/
def ET (w : World) (N : Nat) (v : Value) (ps : List TV) (x : Tok) (ad : Option Addr) (m cd : Nat) : List Value → World → Prop
  | [], u => JS w N v ps x ad m cd u
  | [d], u => JS w N v ps x ad m cd u ∧ Buf u d w.heap.size x.d
  | [d, b], u => (JS w N v ps x ad m cd u ∧ Buf u d w.heap.size x.d) ∧ ∃ B, b = .slice (some ⟨B, 0, none⟩) 1 1 ∧ ∃ T f, u.heap[B]? = some (.cells #[.int .i64 x.f, .int .i64 x.c, d] T f)
  | [d, _, v'], u => OwnT u N v' (ps ++ [(x, d)]) ∧ KeepT w v ps u ∧ (v'.ownBlock = v.ownBlock ∨ ∃ k, v'.ownBlock = some k ∧ w.heap.size ≤ k) ∧ (∀ k, d.ownBlock = some k → w.heap.size ≤ k)
  | _, _ => False
theorem ET.js {w : World} {N : Nat} {v : Value} {ps : List TV} {x : Tok} {ad : Option Addr} {m cd : Nat} {h : List Value} {u : World} (H : ET w N v ps x ad m cd h u) (hl : h.length ≤ 2) : JS w N v ps x ad m cd u := by
  match h, H with
  | [], H => exact H
  | [_], H => exact H.1
  | [_, _], H => exact H.1.1
  | [_, _, _], H => simp at hl
theorem buf_up {w w' : World} {v : Value} {N : Nat} {L : List Nat} (h : Buf w v N L) (hb : Below w.heap.size w w') : Buf w' v N L := buf_same h hb.size (fun g hg => hb.block g (buf_own h g hg).2)
theorem new_post {w u : World} {N : Nat} {v v' d : Value} {ps : List TV} {x : Tok} (hj : joinT (ps.map (·.1)) x = ps.map (·.1) ++ [x]) (ho : OwnT u N v' (ps ++ [(x, d)])) (hk : KeepT w v ps u) (hv : v'.ownBlock = v.ownBlock ∨ ∃ k, v'.ownBlock = some k ∧ w.heap.size ≤ k) (hd : ∀ k, d.ownBlock = some k → w.heap.size ≤ k) : JoinP w N v ps x (.returned v') u := by
  refine ⟨v', ps ++ [(x, d)], rfl, ?_, ho, hk, fun g hg => ?_, fun p hp q hq => ?_⟩
  · rw [hj, List.map_append]; rfl
  · rcases hv with e | ⟨k, e, hk⟩
    · rw [e] at hg; exact .inl hg
    · rw [e] at hg; injection hg with hg; subst hg; exact .inr hk
  · rcases List.mem_append.1 hp with hp | hp
    · exact .inl ⟨p, hp, hq⟩
    · rw [List.mem_singleton.1 hp] at hq
      exact .inr (hd q hq)
theorem joinT_none {us : List TV} {l x : Tok} {dv : Value} (h : fuse l x = none) : joinT ((us ++ [(l, dv)]).map (·.1)) x = (us ++ [(l, dv)]).map (·.1) ++ [x] := by
  rw [List.map_append]
  show joinT (us.map (·.1) ++ [l]) x = _
  rw [joinT_snoc, h]
  simp
theorem zero_tok : (Tryd.prog.info? 68).bind (·.zero) = some (.agg #[.int .i64 0, .int .i64 0, .slice none 0 0]) := by kernel_rfl
theorem one_tok (u : World) (f c : Int) (d : Value) : (Instr.buildSlice 53 1 #[(0, .agg #[.int .i64 f, .int .i64 c, d])]).run Tryd.prog u = .ok (.slice (some ⟨u.heap.size, 0, none⟩) 1 1) (u.alloc (.cells #[.int .i64 f, .int .i64 c, d] 68)) := by
  obtain ⟨i0, hi0, hz0, hz1, hz2⟩ := info_parts info_tok
  exact run_slice_one u 53 68 (.agg #[.int .i64 f, .int .i64 c, d]) [.int .i64 f, .int .i64 c, d] i0 _ 3 Tryd.underlying53 hi0 hz0 hz1 (by omega) (by omega) rfl rfl
set_option maxHeartbeats 1600000 in
theorem join_0 (w : World) (N : Nat) (x : Tok) (ad : Option Addr) (m cd : Nat) (hN : N ≤ w.heap.size) (hx : SrcB w ad m x.d) (hm : m ≤ cd) (hcd : cd ≤ 9223372036854775807) (hn : ad = none → m = 0) (hmb : m ≤ 1000000) :
    Calls Tryd.prog 53 #[.slice none 0 0, tokV x ad m cd] w (JoinP w N (.slice none 0 0) [] x) := by
  have h := OwnT.nil w N
  have HJ3 := hide (JS.enter (cd := cd) h hx)
  have H0 := hide h
  have HF : Hid (joinT (([] : List TV).map (·.1)) x = ([] : List TV).map (·.1) ++ [x]) := hide rfl
  have HL : Hid (([] : List TV).length ≤ 1000001) := hide (by simp)
  clear h hx
  unfold tokV
  go_enter Tryd.func53, Tryd.ntmps53
  go_wp2_with fail
  refine wp_region_keep (fun u => JS w N (.slice none 0 0) [] x ad m cd u) (by kernel_rfl) (by kernel_rfl) (HJ3.out.up (Below.refl _ _).drew) ?_
  repeat (first
    | (refine keep_not (by rfl) ?_
       simp only [Act.put, List.setIfInBounds_toArray, List.set_cons_zero, List.set_cons_succ])
    | (refine keep_step (v := ?_) (by rfl) (fun u K hS hK => ?_) ?_
       rotate_left
       · (go_simp; with_reducible exact hK _ hS)
       simp only [Act.put, List.setIfInBounds_toArray, List.set_cons_zero, List.set_cons_succ]))
  refine keep_nil (fun w3 hS3 => ?_)
  have HJ3 := hide hS3
  clear hS3
  go_wp2_with fail
  refine wp_region_h (ET w N (.slice none 0 0) ([]) x ad m cd)
    [some (some (.slice none 0 0)), some (some (.pointer (some ⟨w.heap.size, 0, none⟩))), some (some (.int .i64 x.f)), some (some (.pointer (some ⟨w.heap.size, 1, none⟩))), some (some (.int .i64 x.c)), some (some (.pointer (some ⟨w.heap.size, 2, none⟩))), some (some (.slice ad m cd)), none, some none, none, none, some none]
    [3, 3, 1, 3, 1, 3, 0, 0, 3, 0, 0, 3] (by kernel_rfl) (by kernel_rfl) [7, 9, 10] [7, 8, 9, 10, 11] rfl rfl (by kernel_rfl) (by kernel_rfl) (HJ3.out.up (Below.refl _ _).drew) ?_
  refine gF_step (by rfl) (fun h u K hL hT hK => ?_) ?_
  · go_simp
    exact hK _ hT
  simp only [Act.put, List.setIfInBounds_toArray, List.set_cons_zero, List.set_cons_succ]
  refine gF_step (by rfl) (fun h u K hL hT hK => ?_) ?_
  · go_simp
    exact hK _ hT
  simp only [Act.put, List.setIfInBounds_toArray, List.set_cons_zero, List.set_cons_succ]
  refine gF_step (by rfl) (fun h u K hL hT hK => ?_) ?_
  · obtain ⟨x0, x1, x2⟩ := (hT.js (by omega)).xs
    go_simp
    exact hK _ hT
  simp only [Act.put, List.setIfInBounds_toArray, List.set_cons_zero, List.set_cons_succ]
  refine gF_step (by rfl) (fun h u K hL hT hK => ?_) ?_
  · go_simp
    exact hK _ hT
  simp only [Act.put, List.setIfInBounds_toArray, List.set_cons_zero, List.set_cons_succ]
  refine gF_step (by rfl) (fun h u K hL hT hK => ?_) ?_
  · obtain ⟨x0, x1, x2⟩ := (hT.js (by omega)).xs
    go_simp
    exact hK _ hT
  simp only [Act.put, List.setIfInBounds_toArray, List.set_cons_zero, List.set_cons_succ]
  refine gF_step (by rfl) (fun h u K hL hT hK => ?_) ?_
  · go_simp
    exact hK _ hT
  simp only [Act.put, List.setIfInBounds_toArray, List.set_cons_zero, List.set_cons_succ]
  refine gF_step (by rfl) (fun h u K hL hT hK => ?_) ?_
  · obtain ⟨x0, x1, x2⟩ := (hT.js (by omega)).xs
    go_simp
    exact hK _ hT
  simp only [Act.put, List.setIfInBounds_toArray, List.set_cons_zero, List.set_cons_succ]
  refine gD_step (fun d => ∃ a n c, d = .slice a n c) ⟨_, none, 0, 0, rfl⟩ (by rfl) (fun u K hT hK => ?_) (fun d hd => ?_)
  · have hT0 : JS w N (.slice none 0 0) ([]) x ad m cd u := hT
    go_simp
    go_at_call 70
    (with_reducible refine Calls.mono (clone_any u ad m cd x.d hT0.src hn (by omega)) ?_)
    rintro e u2 ⟨d, rfl, hbuf, hu⟩
    obtain ⟨da, dc, hdv, -⟩ := hbuf.form
    exact hK _ _ ⟨da, _, dc, hdv⟩ ⟨hT0.up hu, buf_down hbuf hT0.below.size⟩
  obtain ⟨da, dn, dc, rfl⟩ := hd
  simp only [Act.put, List.setIfInBounds_toArray, List.set_cons_zero, List.set_cons_succ]
  refine gG_step (v := .agg #[.int .i64 x.f, .int .i64 x.c, .slice da dn dc]) (by rfl) (fun h' u K hT hK => ?_) ?_
  · go_simp
    exact hK _ hT
  simp only [Act.put, List.setIfInBounds_toArray, List.set_cons_zero, List.set_cons_succ]
  refine gD_step (fun y => ∃ C, y = .slice (some ⟨C, 0, none⟩) 1 1) ⟨_, 0, rfl⟩ (by rfl) (fun u K hT hK => ?_) (fun y hy => ?_)
  · have hT0 : JS w N (.slice none 0 0) ([]) x ad m cd u ∧ Buf u (.slice da dn dc) w.heap.size x.d := hT
    refine kUpon_slice_to 53 1 _ rfl [(0, .agg #[.int .i64 x.f, .int .i64 x.c, .slice da dn dc])] rfl _ _ (one_tok u x.f x.c (.slice da dn dc)) (hK _ _ ⟨_, rfl⟩ ?_)
    exact ⟨⟨hT0.1.up (below_new _ _), buf_up hT0.2 (below_new _ _)⟩, _, rfl, _, _, heap_last _ _⟩
  obtain ⟨C, rfl⟩ := hy
  simp only [Act.put, List.setIfInBounds_toArray, List.set_cons_zero, List.set_cons_succ]
  refine gD_step (fun y => ∃ g n cap, y = .slice (some ⟨g, 0, none⟩) n cap) ⟨_, 0, 0, 0, rfl⟩ (by rfl) (fun u K hT hK => ?_) (fun y hy => ?_)
  · obtain ⟨⟨hJ, hbuf⟩, C', e, T', f', hC⟩ := hT
    simp only [Value.slice.injEq, Option.some.injEq, Addr.mk.injEq, and_true] at e
    subst e
    have hNu : N ≤ u.heap.size := Nat.le_trans hN hJ.below.size
    have hdk : ∀ k, (Value.slice da dn dc).ownBlock = some k → w.heap.size ≤ k := fun k hk => (buf_own hbuf k hk).1
    obtain ⟨v', u', hrun, ho, hg, hown⟩ := append_tok u _ (.slice none 0 0) N ([]) C x (.slice da dn dc) T' f' 1 hJ.own hNu hC (buf_down hbuf hN) (by
      cases hb : (Value.slice da dn dc).ownBlock with
      | none => exact .inl rfl
      | some k =>
        have h1 := hdk k hb
        exact .inr (fun e => by have := (H0.out.own k e.symm).2; omega)) (fun p hp => by
      cases hb : p.2.ownBlock with
      | none => exact .inl rfl
      | some k =>
        have h1 := (H0.out.owns hp k hb).2
        exact .inr (fun e => by have := hdk k e.symm; omega)) (by have := HL.out; simp only [List.length_append, List.length_cons, List.length_nil] at this ⊢; omega)
    rcases ho.form with ⟨_, h0⟩ | ⟨q, c', hv', -⟩
    · exact absurd h0 (by simp)
    refine kUpon_append 53 (.tmp 9) (.tmp 18) rfl hrun (hK _ _ ⟨q, _, c', hv'⟩ ?_)
    refine ⟨ho, KeepT.from_below hJ.below (KeepT.of_grown hg), ?_, hdk⟩
    rcases hown with e | e
    · exact .inl e
    · exact .inr ⟨_, e, hJ.below.size⟩
  obtain ⟨q, vn, vc, rfl⟩ := hy
  simp only [Act.put, List.setIfInBounds_toArray, List.set_cons_zero, List.set_cons_succ]
  refine gG_step (v := .slice (some ⟨q, 0, none⟩) vn vc) (by rfl) (fun h' u K hT hK => ?_) ?_
  · go_simp
    exact hK _ hT
  simp only [Act.put, List.setIfInBounds_toArray, List.set_cons_zero, List.set_cons_succ]
  refine g_nil (fun w4 hT4 => ?_)
  obtain ⟨h41, h42, h43, h44⟩ := hT4
  have HP := hide (new_post HF.out h41 h42 h43 h44)
  clear h41 h42 h43 h44 HJ3 HF H0 HL
  go_wp2
  go_ret
  exact HP.out
end Go.Proofs.YtkinpbhbgeiflaaDoor.De
