/- path.Set. -/
import Derived.Test.YtlhjkacdhfchiaaDoorPv
import Derived.Test.YtlhjkacdhfchiaaDoorPj
namespace Go.Proofs.YtlhjkacdhfchiaaDoor.Px
set_option linter.unusedVariables false
set_option linter.unusedSimpArgs false
set_option maxRecDepth 100000
open Go.ChangeShapes Go.WideShapes Go.ChangeAt Go.RowKit
open Go.Proofs.YtlhjkacdhfchiaaDoor.Wu Go.Proofs.YtlhjkacdhfchiaaDoor.Pm Go.Proofs.YtlhjkacdhfchiaaDoor.Pc Go.Proofs.YtlhjkacdhfchiaaDoor.Pl Go.Proofs.YtlhjkacdhfchiaaDoor.Pd Go.Proofs.YtlhjkacdhfchiaaDoor.Pe Go.Proofs.YtlhjkacdhfchiaaDoor.Pg Go.Proofs.YtlhjkacdhfchiaaDoor.Ps Go.Proofs.YtlhjkacdhfchiaaDoor.Pt Go.Proofs.YtlhjkacdhfchiaaDoor.Pu Go.Proofs.YtlhjkacdhfchiaaDoor.Pv Go.Proofs.YtlhjkacdhfchiaaDoor.Pj
/-- The paths in their order, or which one is wrong, by which number, and whether it is none. -/
def setF : List (List UInt8) → Nat → List (List UInt8) → List (List UInt8) ⊕ (Nat × Int × Bool)
  | S, _, [] => .inl S
  | S, i, p :: R => if check p = none then (if agn p S = 0 then setF (ins S p) (i + 1) R else .inr (i, agn p S, false)) else .inr (i, 90, true)
/-- An error of two: a Fault with that place first. -/
def IsJoin (w : World) (v : Value) (i : Int) : Prop := ∃ J K b y, v = .iface 183 (.pointer (some ⟨J, 0, none⟩)) ∧ w.heap[J]? = some (.cells #[.slice (some ⟨K, 0, none⟩) 2 2] 185 (0, 0)) ∧
  w.heap[K]? = some (.cells #[.iface 96 (.pointer (some ⟨b, 0, none⟩)), y] 42 (0, 0)) ∧ w.heap[b]? = some (.cells #[.int .i64 i, .int .i64 90] 30 (0, 0))
/-- A Fault. -/
def IsFault (w : World) (v : Value) (i c : Int) : Prop := ∃ b, v = .iface 96 (.pointer (some ⟨b, 0, none⟩)) ∧ w.heap[b]? = some (.cells #[.int .i64 i, .int .i64 c] 30 (0, 0))
/-- What Set answers. -/
def SetR (w : World) (l : List (List UInt8)) (e : Ending) (w' : World) : Prop := (match setF [] 0 l with
  | .inl S => ∃ v, e = .returned (.tuple #[v, .nilIface]) ∧ OwnS w' w.heap.size v S
  | .inr (i, c, true) => ∃ v, e = .returned (.tuple #[.slice none 0 0, v]) ∧ IsJoin w' v (i : Int)
  | .inr (i, c, false) => ∃ v, e = .returned (.tuple #[.slice none 0 0, v]) ∧ IsFault w' v (i : Int) c) ∧ Below w.heap.size w w'
theorem own_up {w w' : World} {N : Nat} {v : Value} {S : List (List UInt8)} (h : OwnS w N v S) (hb : Below w.heap.size w w') : OwnS w' N v S := h.same fun g hg => hb.block g (World.ownsRow.lt h g hg).2
set_option maxHeartbeats 3200000 in
theorem set_c (a : Option Addr) (cap : Nat) (l : List (List UInt8)) (w : World) (hs : SrcS w a l) (hc : l.length ≤ cap) (hm : cap ≤ 9223372036854775807) (hbig : l.length ≤ 800000) (hp : ∀ p ∈ l, p.length ≤ 9223372036854775807) :
    Calls Tryd.prog 44 #[.slice a l.length cap] w (SetR w l) := by
  obtain ⟨b, off, ha, hcell⟩ := hs
  obtain ⟨m, hml⟩ : ∃ m, m = l.length := ⟨_, rfl⟩
  have HML := hide hml
  rw [← hml] at ha hc hbig ⊢
  have HCell := hide (fun (i : Nat) (p : List UInt8) (hi : l[i]? = some p) (u : World) (hu : Below w.heap.size w u) => keepC hu (Nat.le_refl _) (hcell i p hi))
  have HP := hide hp
  have HA := hide ha
  obtain ⟨F, hF⟩ : ∃ F, F = setF [] 0 l := ⟨_, rfl⟩
  have HF : Hid (setF [] 0 (l.drop 0) = F) := hide (by rw [List.drop_zero, hF])
  have HPost : Hid (∀ e w', ((match F with
    | .inl S => ∃ v, e = .returned (.tuple #[v, .nilIface]) ∧ OwnS w' w.heap.size v S
    | .inr (i, c, true) => ∃ v, e = .returned (.tuple #[.slice none 0 0, v]) ∧ IsJoin w' v (i : Int)
    | .inr (i, c, false) => ∃ v, e = .returned (.tuple #[.slice none 0 0, v]) ∧ IsFault w' v (i : Int) c) ∧ Below w.heap.size w w') → SetR w l e w') := hide (fun e w' h => by unfold SetR; rw [← hF]; exact h)
  generalize SetR w l = R at *
  clear hcell hp ha hF hml
  go_enter Tryd.func44, Tryd.ntmps44
  go_wp2_with fail
  go_loopw [11, 4] (fun j v wr => ∃ (i : Nat) (S : List (List UInt8)), j = .int .i64 (i : Int) ∧ i ≤ m ∧ S.length ≤ i ∧ OwnS wr w.heap.size v S ∧ setF S i (l.drop i) = F ∧ Below w.heap.size w wr) (fun j _ _ => m - (intOf j).toNat)
  case atStart => exact ⟨0, [], rfl, Nat.zero_le _, Nat.le_refl _, OwnS.nil _ _, HF.out, Below.refl _ _⟩
  case round =>
    clear HF
    obtain ⟨i, S, rfl, hi, hSi, hO, hF, hB⟩ := hrel
    have HO := hide hO
    have HF := hide hF
    have HB := hide hB
    clear hO hF hB
    by_cases hlt : i < m
    · obtain ⟨p, hpi⟩ : ∃ p, l[i]? = some p := ⟨l[i]'(by rw [← HML.out]; exact hlt), by rw [List.getElem?_eq_getElem]⟩
      have hcp := HCell.out i p hpi _ HB.out
      have hpl := HP.out p (List.mem_of_getElem? hpi)
      have hdr : l.drop i = p :: l.drop (i + 1) := by
        rw [List.drop_eq_getElem_cons (List.getElem?_eq_some_iff.1 hpi).1, (List.getElem?_eq_some_iff.1 hpi).2]
      have HF2 : Hid ((if check p = none then (if agn p S = 0 then setF (ins S p) (i + 1) (l.drop (i + 1)) else .inr (i, agn p S, false)) else .inr (i, 90, true)) = F) := hide (by
        have := HF.out
        rw [hdr] at this
        exact this)
      have ea := HA.out (by omega)
      subst ea
      clear hdr HF hpi
      have d1 : decide ((i : Int) < (m : Int)) = true := by simpa using hlt
      have i1 : (0 : Int) ≤ (i : Int) := by omega
      have i2 : (i : Int) < (m : Int) := by omega
      have HCk := hide (check_c p wr hpl)
      go_wp2_with fail
      refine HCk.out.mono ?_
      rintro e w1 ⟨hr, hb1⟩
      have HB1 := hide (keepB hb1 (Nat.le_refl _) HB.out)
      have HO1 : Hid (OwnS w1 w.heap.size u4 S) := hide (own_up HO.out hb1)
      clear HB HO hb1 HCk hcp
      rcases hr with ⟨hck, rfl⟩ | ⟨q, b2, hck, rfl, hq⟩
      · have HF3 := hide (HF2.out)
        rw [if_pos hck] at HF3
        clear HF2 hck
        obtain ⟨a4, c4, h4, hc4, hm4, -, -⟩ := HO1.out.form
        have HV4 := hide h4
        subst h4
        have HAg := hide (against_c a4 c4 S p w1 HO1.out.src hc4 (by unfold maxLen at hm4; omega))
        obtain ⟨z, hz⟩ : ∃ z, z = agn p S := ⟨_, rfl⟩
        rw [← hz] at HAg HF3
        clear hz
        have HIn := hide (insert_c w.heap.size (.slice a4 S.length c4) S p w1 HO1.out (by omega))
        by_cases hz0 : z = 0
        · rw [if_pos hz0] at HF3
          subst hz0
          go_wp2_with fail
          refine HAg.out.mono ?_
          rintro e w2 ⟨rfl, rfl⟩
          go_wp2_with fail
          refine HIn.out.mono ?_
          rintro e w3 ⟨v3, rfl, ho3, hb3⟩
          have HO3 : Hid (OwnS w3 w.heap.size v3 (ins S p)) := hide (OwnS.less (N := w2.heap.size) ho3 HB1.out.size)
          have HB3 := hide (keepB hb3 (Nat.le_refl _) HB1.out)
          have hil : (ins S p).length ≤ i + 1 := by
            unfold ins
            rw [List.length_append, List.length_append, List.length_take, List.length_drop, List.length_singleton]
            omega
          clear HIn HAg HO1 HB1 ho3 hb3 HV4
          go_wp2
          go_roundw
          case rel => exact ⟨i + 1, ins S p, by go_num, by omega, hil, HO3.out, HF3.out, HB3.out⟩
          case measure => simp [intOf]; omega
        · rw [if_neg hz0] at HF3
          have d2 : (z != 0) = true := by simpa using hz0
          clear HIn hz0
          go_wp2_with fail
          refine HAg.out.mono ?_
          rintro e w2 ⟨rfl, rfl⟩
          have HN := hide (heap_last w2 (.cells #[.int .i64 (i : Int), .int .i64 z] 30))
          have HBn := hide (HB1.out.alloc HB1.out.size (.cells #[.int .i64 (i : Int), .int .i64 z] 30))
          clear HAg HO1 HV4
          go_wp2
          refine HPost.out _ _ ⟨?_, HBn.out⟩
          rw [← HF3.out]
          exact ⟨_, rfl, _, rfl, HN.out⟩
      · have HF3 := hide (HF2.out)
        rw [if_neg (by rw [hck]; simp)] at HF3
        clear HF2 hck HO1
        have HN := hide (heap_last w1 (.cells #[.int .i64 (i : Int), .int .i64 90] 30))
        have HBn := hide (HB1.out.alloc HB1.out.size (.cells #[.int .i64 (i : Int), .int .i64 90] 30))
        have HN2 := hide (heap_2a w1 (.cells #[.int .i64 (i : Int), .int .i64 90] 30) (.cells #[.iface 96 (.pointer (some ⟨w1.heap.size, 0, none⟩)), .iface 96 (.pointer (some ⟨b2, 0, none⟩))] 42))
        have HG2 := hide (heap_2b w1 (.cells #[.int .i64 (i : Int), .int .i64 90] 30) (.cells #[.iface 96 (.pointer (some ⟨w1.heap.size, 0, none⟩)), .iface 96 (.pointer (some ⟨b2, 0, none⟩))] 42))
        have HB2 := hide (HBn.out.alloc HBn.out.size (.cells #[.iface 96 (.pointer (some ⟨w1.heap.size, 0, none⟩)), .iface 96 (.pointer (some ⟨b2, 0, none⟩))] 42))
        clear HB1 HN HBn
        go_wp2_with fail
        have HJn := hide (join_c _ _ _ _ _ _ _ _ HG2.out)
        generalize ((w1.alloc (.cells #[.int .i64 (i : Int), .int .i64 90] 30)).alloc (.cells #[.iface 96 (.pointer (some ⟨w1.heap.size, 0, none⟩)), .iface 96 (.pointer (some ⟨b2, 0, none⟩))] 42)) = w2 at *
        refine HJn.out.mono ?_
        rintro e w3 ⟨J, K, rfl, hJ, hK, -, -, hb3⟩
        have HN3 := hide (below_blk hb3 (heap_lt HN2.out) HN2.out)
        have HB3 := hide (keepB hb3 (Nat.le_refl _) HB2.out)
        have HJ := hide hJ
        have HK := hide hK
        clear hb3 hJ hK HB2 HN2 HG2 HJn
        go_wp2
        refine HPost.out _ _ ⟨?_, HB3.out⟩
        rw [← HF3.out]
        exact ⟨_, rfl, J, K, _, _, rfl, HJ.out, HK.out, HN3.out⟩
    · obtain rfl : i = m := by omega
      have d1 : decide ((i : Int) < (i : Int)) = false := by simp
      have HFS : Hid (F = .inl S) := hide (by
        rw [← HF.out, List.drop_of_length_le (by rw [← HML.out]; exact Nat.le_refl _)]
        rfl)
      go_wp2
      refine HPost.out _ _ ⟨?_, HB.out⟩
      rw [HFS.out]
      exact ⟨_, rfl, HO.out⟩
end Go.Proofs.YtlhjkacdhfchiaaDoor.Px
