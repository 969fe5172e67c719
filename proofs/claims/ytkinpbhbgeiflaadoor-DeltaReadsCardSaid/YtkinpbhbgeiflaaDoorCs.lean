/- number: the number at the reader's place. -/
import Derived.Test.YtkinpbhbgeiflaaDoorCr
import Derived.Deep.Cut
namespace Go.Proofs.YtkinpbhbgeiflaaDoor.Cs
set_option linter.unusedVariables false
set_option linter.unusedSimpArgs false
set_option maxRecDepth 100000
open Go.ChangeShapes Go.WideShapes Go.ChangeAt Go.RowKit
open Go.Proofs.YtkinpbhbgeiflaaDoor.Wu Go.Proofs.YtkinpbhbgeiflaaDoor.Sm Go.Proofs.YtkinpbhbgeiflaaDoor.Sh Go.Proofs.YtkinpbhbgeiflaaDoor.Ba Go.Proofs.YtkinpbhbgeiflaaDoor.Bp Go.Proofs.YtkinpbhbgeiflaaDoor.Bq Go.Proofs.YtkinpbhbgeiflaaDoor.Cm Go.Proofs.YtkinpbhbgeiflaaDoor.Cn Go.Proofs.YtkinpbhbgeiflaaDoor.Cr

/-- What number leaves. -/
def NumPost (w : World) (g : Nat) (a : Option Addr) (m c at_ : Nat) (R : NumR) (e : Ending) (w' : World) : Prop :=
  match R with
  | .ok n s => e = .returned (.tuple #[.int .i64 (n : Int), .int .i64 (s : Int)]) ∧ ∃ k, w' = w.drewN k
  | .bad code => e = .returned (.tuple #[.int .i64 0, .int .i64 0]) ∧ Rd w' g a m c (at_ : Int) (if code = 30 then (m : Int) else (at_ : Int)) (code : Int) ∧ w.grownBy w' (some g)
theorem pow7 (k : Nat) : 2 ^ (7 * (k + 1)) = 128 * 2 ^ (7 * k) := by rw [Nat.mul_add, Nat.pow_add]; omega
theorem step_lt {acc x k : Nat} (h : acc < 2 ^ (7 * k)) : acc + x % 128 * 2 ^ (7 * k) < 2 ^ (7 * (k + 1)) := by
  rw [pow7]
  have h1 : x % 128 * 2 ^ (7 * k) ≤ 127 * 2 ^ (7 * k) := Nat.mul_le_mul_right _ (by omega)
  omega
theorem pow_le {k : Nat} (h : k ≤ 6) : 2 ^ (7 * k) ≤ 4398046511104 := by
  have : 2 ^ (7 * k) ≤ 2 ^ 42 := Nat.pow_le_pow_right (by decide) (by omega)
  omega
theorem wpList_exec_to {P : Program} {ops : Array Oper} {rest : List Oper} {o : Oper} {a : Act} {w : World} {Q : Exit → Act → World → Prop} (hg : o.guard = none) (v : Value) (hr : (execOp a.eval o).run P w = .ok (.value v) w)
    (h : wpList P ops Q rest (a.put o.dst v) w) : wpList P ops Q (o :: rest) a w := by
  refine wpList_plain hg fun K hK => ?_
  unfold Oper.wp
  rw [hr]
  exact hK _ _ h
set_option maxHeartbeats 3200000 in
set_option maxRecDepth 100000 in
theorem number_c (g : Nat) (a : Option Addr) (m c at_ : Nat) (L : List Nat) (fa : Int) (w : World) (R : NumR) (h : Rd w g a m c (at_ : Int) fa 0) (hs : SrcB w a m L) (hat : at_ ≤ m) (hmc : m ≤ c) (hm : m ≤ 281474976710656) (hR : numP (L.drop at_) 0 0 = R) :
    Calls Tryd.prog 95 #[.pointer (some ⟨g, 0, none⟩)] w (NumPost w g a m c at_ R) := by
  have H := hide h
  have HS := hide hs
  have HR := hide hR
  clear h hs hR
  go_enter Tryd.func95, Tryd.ntmps95
  go_wp2_with fail
  refine (sound_c g a m c _ _ _ w H.out).mono ?_
  rintro e w1 ⟨rfl, rfl⟩
  obtain ⟨c0, c1, c2, c3⟩ := H.out.cells
  obtain ⟨A', hA'⟩ : ∃ A', A' = (if c = at_ then a else a.map (·.add at_)) := ⟨_, rfl⟩
  have hsl := fun v : World => slice_from v a m c at_ hat
  rw [← hA'] at hsl
  have HA' := hide hA'
  clear hA'
  go_wp2_with fail
  go_quiet (fail)
  have H1 : Hid (Rd (w.drewN nq) g a m c (at_ : Int) fa 0) := H.out
  have HG1 : Hid (w.grownBy (w.drewN nq) (some g)) := ⟨rfl, rfl, rfl, Nat.le_refl _, fun _ _ _ => rfl⟩
  have HS1 : Hid (SrcB (w.drewN nq) a m L) := HS.out
  have HW : Hid (∃ k, w.drewN nq = w.drewN k) := ⟨nq, rfl⟩
  clear hsl c0 c1 c2 c3
  generalize w.drewN nq = wq at *
  obtain ⟨hLl, hL8, bb, off, ha, hcell⟩ := HS1.out
  have HLl := hide hLl
  have Ha := hide ha
  have HC := hide hcell
  clear hLl ha hcell HS1 HS H
  go_wp2_with fail
  go_loopw [19, 2, 4, 5] (fun i n _ _ wr => ∃ k acc : Nat, i = .int .i64 (k : Int) ∧ n = .int .i64 (acc : Int) ∧ k ≤ m - at_ ∧ k ≤ 6 ∧ acc < 2 ^ (7 * k) ∧ numP (L.drop (at_ + k)) k acc = R ∧ wr = wq) (fun i _ _ _ _ => m - at_ - (intOf i).toNat)
  case atStart => exact ⟨0, 0, rfl, rfl, by omega, by omega, by simp, HR.out, rfl⟩
  case round =>
    obtain ⟨k, acc, rfl, rfl, hk, hk6, hacc, hnum, rfl⟩ := hrel
    have HN := hide hnum
    clear hnum HR
    have hp := pow_le hk6
    by_cases hlt : k < m - at_
    · have hca : c ≠ at_ := by omega
      have hA : A' = some ⟨bb, off + at_, none⟩ := by
        rw [HA'.out, if_neg hca, Ha.out (by omega), Option.map_some, Addr.add_mid]
      subst hA
      have hcx : wr.cell? ⟨bb, off + at_ + k, none⟩ = some (.int .u8 ((L.getD (at_ + k) 0 : Nat) : Int)) := by
        rw [Nat.add_assoc]; exact HC.out (at_ + k) (by omega)
      have hx8 := all8_getD hL8 (at_ + k)
      have hdr : L.drop (at_ + k) = L.getD (at_ + k) 0 :: L.drop (at_ + k + 1) := by
        have hl : at_ + k < L.length := by rw [HLl.out]; omega
        rw [List.drop_eq_getElem_cons hl]; simp [List.getD, hl]
      have hN := HN.out
      rw [hdr] at hN
      obtain ⟨x, hx⟩ : ∃ x, x = L.getD (at_ + k) 0 := ⟨_, rfl⟩
      rw [← hx] at hcx hx8 hN
      clear hx hdr HN
      have HN := hide hN
      clear hN
      have hd0 : decide ((k : Int) < (m - at_ : Nat)) = true := by simp; omega
      have hd1 : decide (k < m - at_) = true := by simp; omega
      have k0 : (0 : Int) ≤ (k : Int) := by omega
      have k1 : (k : Int) < (m - at_ : Nat) := by omega
      by_cases hform : k = 6 ∨ (0 < k ∧ x = 0)
      · have hN := HN.out
        unfold numP at hN
        rw [if_pos hform] at hN
        subst hN
        have hcs : (((k : Int) == 6) = true ∧ (k == 6) = true) ∨ ((((k : Int) == 6) = false ∧ (k == 6) = false) ∧ (0 < k) ∧ (((x : Int) == 0) = true ∧ (x == 0) = true)) := by
          rcases hform with h | ⟨h1, h2⟩
          · left; constructor <;> (simp; omega)
          · by_cases h6 : k = 6
            · left; constructor <;> (simp; omega)
            · right; refine ⟨⟨by simp; omega, by simp; omega⟩, h1, by simp; omega, by simp; omega⟩
        clear hform
        obtain ⟨c0, c1, c2, c3⟩ := H1.out.cells
        rcases hcs with ⟨q1, p1⟩ | ⟨⟨q1, p1⟩, q2, q3, p3⟩
        all_goals
          go_wp2_with fail
          refine (fail_c g a m c _ _ _ (at_ : Int) 31 wr H1.out).mono ?_
          rintro e w2 ⟨rfl, hr2, hg2⟩
          have HR2 := hide hr2
          have HG2 := hide (grown_trans HG1.out hg2)
          clear hr2 hg2 c0 c1 c2 c3 hcx
          go_wp2
          go_ret2
          exact ⟨rfl, HR2.out, HG2.out⟩
      · have hN := HN.out
        unfold numP at hN
        rw [if_neg hform] at hN
        have hk5 : k < 6 := by omega
        have q1 : ((k : Int) == 6) = false := by simp; omega
        have hz : ¬ (0 < k) ∨ x ≠ 0 := by omega
        have hst := step_lt (x := x) hacc
        have hp2 := pow_le (k := k + 1) (by omega)
        obtain ⟨y, hy⟩ : ∃ y, y = x % 128 * 2 ^ (7 * k) := ⟨_, rfl⟩
        rw [← hy] at hN hst
        have hyb : y ≤ 4398046511104 := by omega
        have hsh : wrap64 ((x : Int) % 128 * 2 ^ (7 * k)) = (y : Int) := by
          have e : (x : Int) % 128 * 2 ^ (7 * k) = (y : Int) := by rw [hy, Int.natCast_mul, Int.natCast_pow, Int.natCast_emod]; rfl
          rw [e]
          exact IntWalk.wrap64_in _ (by omega)
        have HSH := hide hsh
        have Hy := hide hy
        clear hy hsh
        have hab : (acc : Int) + (y : Int) ≤ 8796093022208 := by omega
        have ha0 : (0 : Int) ≤ (acc : Int) := by omega
        have hy0 : (0 : Int) ≤ (y : Int) := by omega
        have HWR : Hid (wrap64 ((acc : Int) + wrap64 ((x : Int) % 128 * 2 ^ (7 * k))) = (acc : Int) + (y : Int)) := by show _ = _; rw [HSH.out]; exact IntWalk.wrap64_in _ (by omega)
        have HN2 := hide hN
        have Hst := hide hst
        have Hform := hide hform
        clear hN HN hst hform
        have p1 : (k == 6) = false := by simp; omega
        have hcs : (decide (0 < k) = false ∧ ¬ 0 < k ∧ True) ∨ ((0 < k) ∧ ((x : Int) == 0) = false ∧ (x == 0) = false) := by
          rcases hz with h | h
          · exact .inl ⟨by simp; omega, h, trivial⟩
          · by_cases hk0 : 0 < k
            · exact .inr ⟨hk0, by simp; omega, by simp; omega⟩
            · exact .inl ⟨by simp; omega, hk0, trivial⟩
        have HPP := hide hp
        have HP2 := hide hp2
        have HAC := hide hacc
        clear hp hp2 hacc hz hyb
        by_cases hbig : 128 ≤ x
        · have hN := HN2.out
          rw [if_pos hbig] at hN
          have HN := hide hN
          clear hN HN2
          have b1 : decide ((128 : Int) ≤ (x : Int)) = true := by simp; omega
          have b2 : decide (128 ≤ x) = true := by simp; omega
          rcases hcs with ⟨q2, q3, p3⟩ | ⟨q2, q3, p3⟩
          all_goals
            go_wp2
            go_roundw
            case rel => exact ⟨k + 1, acc + y, by go_num, congrArg (Value.int .i64) (by rw [HWR.out]; omega), by omega, by omega, Hst.out, HN.out, (by first | rfl | trivial)⟩
            case measure => simp [intOf]; omega
        · have hN := HN2.out
          rw [if_neg hbig] at hN
          have b1 : decide ((128 : Int) ≤ (x : Int)) = false := by simp; omega
          have b2 : decide (128 ≤ x) = false := by simp; omega
          by_cases hr : 1099511627776 < acc + y
          · rw [if_pos hr] at hN
            subst hN
            have r1 : decide ((1099511627776 : Int) < (acc : Int) + (y : Int)) = true := by simp; omega
            obtain ⟨c0, c1, c2, c3⟩ := H1.out.cells
            clear HN2
            rcases hcs with ⟨q2, q3, p3⟩ | ⟨q2, q3, p3⟩
            all_goals
              go_upto_if 51 with (fail)
              rw [HWR.out]
              go_wp2_with fail
              refine (fail_c g a m c _ _ _ (at_ : Int) 1 wr H1.out).mono ?_
              rintro e w2 ⟨rfl, hr2, hg2⟩
              have HR2 := hide hr2
              have HG2 := hide (grown_trans HG1.out hg2)
              clear hr2 hg2 c0 c1 c2 c3 hcx
              go_wp2
              go_ret2
              exact ⟨rfl, HR2.out, HG2.out⟩
          · rw [if_neg hr] at hN
            subst hN
            have r1 : decide ((1099511627776 : Int) < (acc : Int) + (y : Int)) = false := by simp; omega
            clear HN2
            rcases hcs with ⟨q2, q3, p3⟩ | ⟨q2, q3, p3⟩
            all_goals
              go_upto_if 51 with (fail)
              rw [HWR.out]
              go_wp2
              go_ret2
              refine ⟨?_, HW.out⟩
              rw [show ((acc + y : Nat) : Int) = (acc : Int) + (y : Int) by omega, show ((k + 1 : Nat) : Int) = (k : Int) + 1 by omega]
              rfl
    · have hkm : k = m - at_ := by omega
      have hN := HN.out
      rw [hkm, show at_ + (m - at_) = m by omega, List.drop_eq_nil_of_le (by rw [HLl.out]; omega)] at hN
      have hN2 : NumR.bad 30 = R := hN
      subst hN2
      have hd1 : decide (k < m - at_) = false := by simp; omega
      have hd0 : decide ((k : Int) < (m - at_ : Nat)) = false := by simp; omega
      obtain ⟨c0, c1, c2, c3⟩ := H1.out.cells
      have Hkm := hide hkm
      clear hkm hN HN
      go_wp2_with fail
      refine (fail_c g a m c _ _ _ (m : Int) 30 wr H1.out).mono ?_
      rintro e w2 ⟨rfl, hr2, hg2⟩
      have HR2 := hide hr2
      have HG2 := hide (grown_trans HG1.out hg2)
      clear hr2 hg2 c0 c1 c2 c3
      go_wp2
      go_ret2
      exact ⟨rfl, HR2.out, HG2.out⟩
end Go.Proofs.YtkinpbhbgeiflaaDoor.Cs
