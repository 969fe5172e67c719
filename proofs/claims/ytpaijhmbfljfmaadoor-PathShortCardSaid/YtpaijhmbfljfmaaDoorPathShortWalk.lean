/- PathShort's walk. -/
import Derived.Test.YtpaijhmbfljfmaaDoorPf
import Derived.Test.YtpaijhmbfljfmaaDoorPg
import Derived.Test.YtpaijhmbfljfmaaDoorPh
namespace Go.Proofs.YtpaijhmbfljfmaaDoor.PathShortW
set_option linter.unusedVariables false
set_option linter.unusedSimpArgs false
set_option maxRecDepth 100000
open Go.ChangeShapes Go.WideShapes Go.RowKit
open Go.Proofs.YtpaijhmbfljfmaaDoor.Wu Go.Proofs.YtpaijhmbfljfmaaDoor.Pm Go.Proofs.YtpaijhmbfljfmaaDoor.Pc Go.Proofs.YtpaijhmbfljfmaaDoor.Pl Go.Proofs.YtpaijhmbfljfmaaDoor.Pd Go.Proofs.YtpaijhmbfljfmaaDoor.Pe Go.Proofs.YtpaijhmbfljfmaaDoor.Er Go.Proofs.YtpaijhmbfljfmaaDoor.Eu Go.Proofs.YtpaijhmbfljfmaaDoor.Ei Go.Proofs.YtpaijhmbfljfmaaDoor.Pf Go.Proofs.YtpaijhmbfljfmaaDoor.Pg Go.Proofs.YtpaijhmbfljfmaaDoor.Ph
theorem pre_c (s p : List UInt8) (w : World) : Calls Tryd.prog 42 #[.string (bs s), .string (bs p)] w fun e w' => e = .returned (.bool (p.isPrefixOf s)) ∧ w' = w := by
  have h := Any.strings_HasPrefix lay99 (bs s) (bs p) w
  rw [bs_data, bs_data] at h
  exact h
/-- The six texts that are none. -/
def six (s : List UInt8) : List (List UInt8) := [47 :: s, s ++ [47], 46 :: 47 :: s, s ++ [47, 46, 46], 46 :: 46 :: 47 :: s, s ++ [47, 46]]
theorem six_bad (s x : List UInt8) (h : x ∈ six s) : ∃ q, check x = some q := by
  simp only [six, List.mem_cons, List.not_mem_nil, or_false] at h
  rcases h with rfl | rfl | rfl | rfl | rfl | rfl
  · exact bad_front [] s [] rfl (p := 0) rfl
  · exact bad_back [] s [] rfl (p := 0) rfl
  · exact bad_front [46] s [46] rfl (p := 0) rfl
  · exact bad_back [46, 46] s [46, 46] rfl (p := 0) rfl
  · exact bad_front [46, 46] s [46, 46] rfl (p := 0) rfl
  · exact bad_back [46] s [46] rfl (p := 0) rfl
def sixC (s : List UInt8) : Array Value := #[.string (bs (47 :: s)), .string (bs (s ++ [47])), .string (bs (46 :: 47 :: s)), .string (bs (s ++ [47, 46, 46])), .string (bs (46 :: 46 :: 47 :: s)), .string (bs (s ++ [47, 46]))]
theorem sixC_at (s : List UInt8) (i : Nat) (h : i < 6) : ∃ x, (sixC s)[i]? = some (.string (bs x)) ∧ (∃ q, check x = some q) ∧ x.length ≤ s.length + 3 := by
  have hl : (six s).length = 6 := rfl
  have hx : ∃ x, (six s)[i]? = some x := ⟨(six s)[i], List.getElem?_eq_getElem (by omega)⟩
  obtain ⟨x, hx⟩ := hx
  refine ⟨x, ?_, six_bad s x (List.mem_of_getElem? hx), ?_⟩
  · have : sixC s = ((six s).map fun x => Value.string (bs x)).toArray := rfl
    rw [this]
    simp [hx]
  · have := List.mem_of_getElem? hx
    simp only [six, List.mem_cons, List.not_mem_nil, or_false] at this
    rcases this with rfl | rfl | rfl | rfl | rfl | rfl <;> simp <;> omega
set_option maxHeartbeats 1600000 in
theorem out1 (r s : List UInt8) (w : World) (he : Et w) (hr : r.length ≤ 9223372036854775807) (hs : s.length ≤ 9223372036854775807) (p : Nat) (h : check s = some p) : Calls Tryd.prog 11 #[.string (bs r), .string (bs s)] w (RetT w) := by
  have HC := hide (checks_c w he)
  have H1 := hide (fun u => check_c s u hs)
  rw [h] at H1
  go_enter Tryd.func11, Tryd.ntmps11
  go_wp2_with fail
  refine HC.out.mono ?_
  rintro e w1 ⟨rfl, hb1⟩
  have HB1 := hide hb1
  clear hb1 HC
  go_wp2_with fail
  refine (H1.out w1).mono ?_
  intro e w2 hc
  obtain ⟨b, rfl, -, hb2⟩ := Chk.some hc
  have HB2 := hide (keepB hb2 (Nat.le_refl _) HB1.out)
  clear hc hb2
  go_wp2
  go_ret
  exact ⟨rfl, HB2.out⟩
set_option maxHeartbeats 1600000 in
theorem out2 (r s : List UInt8) (w : World) (he : Et w) (hr : r.length ≤ 9223372036854775807) (hs : s.length ≤ 9223372036854775807) (p : Nat) (h : check s = none) (h2 : check r = some p) : Calls Tryd.prog 11 #[.string (bs r), .string (bs s)] w (RetT w) := by
  have HC := hide (checks_c w he)
  have H1 := hide (fun u => check_c s u hs)
  have H2 := hide (fun u => check_c r u hr)
  rw [h] at H1
  rw [h2] at H2
  go_enter Tryd.func11, Tryd.ntmps11
  go_wp2_with fail
  refine HC.out.mono ?_
  rintro e w1 ⟨rfl, hb1⟩
  have HB1 := hide hb1
  clear hb1 HC
  go_wp2_with fail
  refine (H1.out w1).mono ?_
  intro e w2 hc
  obtain ⟨rfl, hb2⟩ := Chk.none hc
  have HB2 := hide (keepB hb2 (Nat.le_refl _) HB1.out)
  clear hc hb2
  go_wp2_with fail
  refine (H2.out w2).mono ?_
  intro e w3 hc
  obtain ⟨b, rfl, -, hb3⟩ := Chk.some hc
  have HB3 := hide (keepB hb3 (Nat.le_refl _) HB2.out)
  clear hc hb3
  go_wp2
  go_ret
  exact ⟨rfl, HB3.out⟩
set_option maxHeartbeats 3200000 in
theorem walk (r s : List UInt8) (w : World) (he : Et w) (h : check s = none) (h2 : check r = none) : Calls Tryd.prog 11 #[.string (bs r), .string (bs s)] w (RetT w) := by
  have hs : s.length ≤ 64 := ((check_none s).1 h).1
  have hr : r.length ≤ 64 := ((check_none r).1 h2).1
  have hr0 := check_ne h2
  have HC := hide (checks_c w he)
  have H1 := hide (fun u => check_c s u (by omega))
  have H2 := hide (fun u => check_c r u (by omega))
  rw [h] at H1
  rw [h2] at H2
  have H3 : Hid (∀ (u : World) (i : Nat), i < s.length → s[i]? = some 47 → Calls Tryd.prog 32 #[.string (bs (s.take i))] u (Chk u none)) := hide (fun u i hi h47 => by
    have hd : s = s.take i ++ 47 :: s.drop (i + 1) := by
      have h1 := (List.take_append_drop i s).symm
      rw [List.drop_eq_getElem_cons hi, (List.getElem?_eq_some_iff.1 h47).2] at h1
      exact h1
    rw [hd] at h
    have h3 := check_c (s.take i) u (by rw [List.length_take]; omega)
    rw [check_front h] at h3
    exact h3)
  have HJ := hide (fun u => join_c r s u (by omega))
  have hj : joined r s = r ++ [47] ++ s := by unfold joined; rw [if_neg hr0]
  unfold JoinV at HJ
  rw [hj] at HJ
  clear hj
  have HP : Hid (∀ u : World, Calls Tryd.prog 42 #[.string (bs (r ++ [47] ++ s)), .string (bs (r ++ [47]))] u fun e w' => e = .returned (.bool true) ∧ w' = u) := hide (fun u => by
    have := pre_c (r ++ [47] ++ s) (r ++ [47]) u
    have h5 : (r ++ [47]).isPrefixOf (r ++ [47] ++ s) = true := by rw [List.isPrefixOf_iff_prefix]; exact ⟨s, rfl⟩
    rw [h5] at this
    exact this)
  have hJs : (bs (r ++ [47] ++ s)).size = r.length + 1 + s.length := by rw [bs_size]; simp; omega
  generalize r ++ [47] ++ s = J at HJ HP hJs
  have A0 := add_slash r (by omega)
  have A1 : ∀ u : World, Sem.run Tryd.prog (Op.stringOp .add ⟨#[47]⟩ (bs s)) u = .ok (.string (bs (47 :: s))) u := add_bs [47] s (by simp; omega)
  have A2 := add_slash s (by omega)
  have A3 : ∀ u : World, Sem.run Tryd.prog (Op.stringOp .add ⟨#[46, 47]⟩ (bs s)) u = .ok (.string (bs (46 :: 47 :: s))) u := add_bs [46, 47] s (by simp; omega)
  have A4 : ∀ u : World, Sem.run Tryd.prog (Op.stringOp .add (bs s) ⟨#[47, 46, 46]⟩) u = .ok (.string (bs (s ++ [47, 46, 46]))) u := add_bs s [47, 46, 46] (by simp; omega)
  have A5 : ∀ u : World, Sem.run Tryd.prog (Op.stringOp .add ⟨#[46, 46, 47]⟩ (bs s)) u = .ok (.string (bs (46 :: 46 :: 47 :: s))) u := add_bs [46, 46, 47] s (by simp; omega)
  have A6 : ∀ u : World, Sem.run Tryd.prog (Op.stringOp .add (bs s) ⟨#[47, 46]⟩) u = .ok (.string (bs (s ++ [47, 46]))) u := add_bs s [47, 46] (by simp; omega)
  have z1 := bs_size r
  have z2 := bs_size s
  have HSx := hide (sixC_at s)
  clear he h h2
  go_enter Tryd.func11, Tryd.ntmps11
  go_wp2_with fail
  refine HC.out.mono ?_
  rintro e w1 ⟨rfl, hb1⟩
  have HB1 := hide hb1
  clear hb1 HC
  go_wp2_with fail
  refine (H1.out w1).mono ?_
  intro e w2 hc
  obtain ⟨rfl, hb2⟩ := Chk.none hc
  have HB2 := hide (keepB hb2 (Nat.le_refl _) HB1.out)
  clear hc hb2 HB1
  go_wp2_with fail
  refine (H2.out w2).mono ?_
  intro e w3 hc
  obtain ⟨rfl, hb3⟩ := Chk.none hc
  have HB3 := hide (keepB hb3 (Nat.le_refl _) HB2.out)
  clear hc hb3 HB2
  go_wp2_with fail
  go_loopw [22] (fun vi wr => ∃ i : Nat, vi = .int .i64 (i : Int) ∧ i ≤ s.length ∧ Below w.heap.size w wr) (fun vi _ => s.length - (intOf vi).toNat)
  case atStart => exact ⟨0, rfl, Nat.zero_le _, HB3.out⟩
  case round =>
    obtain ⟨i, rfl, hi, hb⟩ := hrel
    have HB := hide hb
    clear hb HB3
    by_cases hlt : i < s.length
    · have hb : i < (bs s).size := by omega
      have hx := bs_at hb
      have HE := hide (bs_extract s 0 i)
      by_cases h47 : (bs s)[i]'hb = 47
      · have hd : ((((bs s)[i]'hb).toNat : Int) == 47) = true := by rw [h47]; rfl
        have H4 := hide (H3.out wr i hlt (by rw [hx, h47]))
        rw [List.drop_zero, Nat.sub_zero] at HE
        clear hx h47
        go_wp2_with fail
        rw [HE.out]
        refine H4.out.mono ?_
        intro e w4 hc
        obtain ⟨rfl, hb4⟩ := Chk.none hc
        have HB4 := hide (keepB hb4 (Nat.le_refl _) HB.out)
        clear hc hb4
        go_wp2
        go_roundw
        case rel => exact ⟨i + 1, by go_num, by omega, HB4.out⟩
        case measure => simp [intOf]; omega
      · have hd : ((((bs s)[i]'hb).toNat : Int) == 47) = false := by
          rw [beq_eq_false_iff_ne]
          intro e
          exact h47 (UInt8.toNat_inj.1 (by show _ = 47; omega))
        clear hx h47
        go_wp2
        go_roundw
        case rel => exact ⟨i + 1, by go_num, by omega, HB.out⟩
        case measure => simp [intOf]; omega
    · have hn := below_new wr (.cells (sixC s) 9)
      have HX := hide (heap_last wr (.cells (sixC s) 9))
      have HBn := hide (keepB hn (Nat.le_refl _) HB.out)
      clear hn
      go_wp2_with fail
      clear A1 A2 A3 A4 A5 A6
      have e6 : wr.alloc (.cells #[.string (bs (47 :: s)), .string (bs (s ++ [47])), .string (bs (46 :: 47 :: s)), .string (bs (s ++ [47, 46, 46])), .string (bs (46 :: 46 :: 47 :: s)), .string (bs (s ++ [47, 46]))] 9) = wr.alloc (.cells (sixC s) 9) := rfl
      rw [e6]
      clear e6 HB
      generalize wr.alloc (.cells (sixC s) 9) = w5 at *
      generalize wr.heap.size = X at *
      go_loopw [51] (fun vi wr => ∃ i : Nat, vi = .int .i64 (i : Int) ∧ i ≤ 6 ∧ Below w5.heap.size w5 wr) (fun vi _ => 6 - (intOf vi).toNat)
      case atStart => exact ⟨0, rfl, Nat.zero_le _, Below.refl _ _⟩
      case round =>
        obtain ⟨k, rfl, hk, hb6⟩ := hrel
        have HB6 := hide hb6
        clear hb6
        by_cases hk6 : k < 6
        · obtain ⟨x, hx1, ⟨q, hx2⟩, hx3⟩ := HSx.out k hk6
          have hcell : wr.cell? ⟨X, k, none⟩ = some (.string (bs x)) := keepC HB6.out (Nat.le_refl _) (blk_cell HX.out hx1)
          have H7 := hide (check_c x wr (by omega))
          rw [hx2] at H7
          clear hx1 hx2
          go_wp2_with fail
          refine H7.out.mono ?_
          intro e w7 hc
          obtain ⟨b, rfl, -, hb7⟩ := Chk.some hc
          have HB7 := hide (keepB hb7 (Nat.le_refl _) HB6.out)
          clear hc hb7
          go_wp2
          go_roundw
          case rel => exact ⟨k + 1, by go_num, by omega, HB7.out⟩
          case measure => simp [intOf]; omega
        · have HBw := hide (keepB HB6.out (Nat.le_refl _) HBn.out)
          clear HBn HB6 HX
          go_wp2_with fail
          refine (HJ.out wr).mono ?_
          rintro e w8 ⟨⟨-, rfl⟩ | ⟨p, b, -, rfl, -⟩, hb8⟩
          · have HB8 := hide (keepB hb8 (Nat.le_refl _) HBw.out)
            clear hb8
            go_wp2_with fail
            refine (HP.out w8).mono ?_
            rintro e w9 ⟨rfl, rfl⟩
            go_wp2
            go_ret
            exact ⟨rfl, HB8.out⟩
          · have HB8 := hide (keepB hb8 (Nat.le_refl _) HBw.out)
            clear hb8
            go_wp2
            go_ret
            exact ⟨rfl, HB8.out⟩
end Go.Proofs.YtpaijhmbfljfmaaDoor.PathShortW
