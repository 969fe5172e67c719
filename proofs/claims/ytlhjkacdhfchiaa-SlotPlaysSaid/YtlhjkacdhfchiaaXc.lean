/- slot: In, Count, Len, New. -/
import Derived.Test.YtlhjkacdhfchiaaXb
namespace Go.Proofs.Ytlhjkacdhfchiaa.Xc
set_option linter.unusedVariables false
set_option linter.unusedSimpArgs false
set_option maxRecDepth 100000
open Go.ChangeShapes Go.WideShapes Go.ChangeAt Go.RowKit
open Go.Maps (Keyed int_keyed keyOf_int_mk)
open Go.Proofs.Ytlhjkacdhfchiaa.Wu Go.Proofs.Ytlhjkacdhfchiaa.Km Go.Proofs.Ytlhjkacdhfchiaa.Xa Go.Proofs.Ytlhjkacdhfchiaa.Xb
theorem new_c (w : World) : Calls Try.prog 9 #[] w fun e w' => e = .returned (.pointer (some ⟨w.heap.size + 1, 0, none⟩)) ∧ SlW w' (w.heap.size + 1) w.heap.size [] ∧ Below w.heap.size w w' := by
  have hm := @run_makeMap Try.prog
  go_enter Try.func9, Try.ntmps9
  go_wp2
  go_ret
  refine ⟨rfl, ⟨heap_2b _ _ _, (MapL.made w).same ?_⟩, ((Below.refl _ w).alloc (Nat.le_refl _) _).alloc (by simp) _⟩
  exact (MapKept.heap_alloc _ _).2 _ (by simp)
theorem len_c (P M : Nat) (L : List Sl) (w : World) (h : SlW w P M L) :
    Calls Try.prog 12 #[.pointer (some ⟨P, 0, none⟩)] w fun e w' => e = .returned (.int .i64 (L.length : Int)) ∧ w' = w := by
  have hr := Xa.MapL.len h.map (t := 68) Try.underlying68 3
  rw [List.length_map] at hr
  have c0 := blk_cell (i := 0) h.obj rfl
  clear h
  go_enter Try.func12, Try.ntmps12
  go_wp2
  go_ret
  exact ⟨rfl, rfl⟩
theorem in_c (P M : Nat) (L : List Sl) (who : Int) (w : World) (h : SlW w P M L) (hw : (Lit.int .i64 who).wf = true) :
    Calls Try.prog 13 #[.pointer (some ⟨P, 0, none⟩), .int .i64 who] w fun e w' => e = .returned (inV L who) ∧ Below w.heap.size w w' := by
  have c0 := blk_cell (i := 0) h.obj rfl
  have HM := hide h.map
  have HO := hide h.once
  have HK := hide (key_int hw)
  clear h hw
  go_enter Try.func13, Try.ntmps13
  go_wp2_with (refine wpList_look rfl (.tmp 12) (.tmp 13) 68 true rfl 3 72 law_int Try.underlying68 _ zero_pl M (L.map ent) rfl HM.out (.int .i64 who) (.int .i64 who) rfl HK.out ?_ ?_)
  · intro hno
    have HV := hide (inV_false (placed_false hno))
    have HB := hide (below_new w (.cells #[.string ByteArray.empty] 72))
    clear hno
    go_wp2
    go_ret2
    exact ⟨by rw [HV.out]; rfl, HB.out⟩
  · intro v hv
    obtain ⟨u, hu, he⟩ := ent_key hv
    obtain ⟨x, s⟩ := u
    unfold ent at he
    injection he with e1 e2
    injection e1 with _ e1
    subst e2
    simp only at e1
    subst e1
    have HV := hide (inV_true HO.out hu)
    have HB := hide (below_new w (.cells #[.string s] 72))
    clear hv hu
    go_wp2
    go_ret2
    exact ⟨by rw [HV.out]; rfl, HB.out⟩
set_option maxHeartbeats 1600000 in
theorem count_c (P M : Nat) (L : List Sl) (nm : ByteArray) (w : World) (h : SlW w P M L) :
    Calls Try.prog 14 #[.pointer (some ⟨P, 0, none⟩), .string nm] w fun e w' => e = .returned (.int .i64 (cnt nm L : Int)) ∧ Below w.heap.size w w' := by
  have c0 := blk_cell (i := 0) h.obj rfl
  have HM := hide h.map
  have hlen := h.len
  have hcl : cnt nm L ≤ L.length := List.countP_le_length
  have HC := hide (cnt_map nm L)
  obtain ⟨C, hC⟩ : ∃ C, C = cnt nm L := ⟨_, rfl⟩
  rw [← hC] at HC hcl ⊢
  unfold maxLen at hlen
  clear h hC
  go_enter Try.func14, Try.ntmps14
  go_wp2_with (refine wpList_range rfl (.tmp 11) 68 rfl 3 72 Try.underlying68 M (L.map ent) rfl HM.out ?_)
  intro w1 HR1 HG1 HS1
  refine un ?_
  have HB1 := hide ((Below.refl w.heap.size w).grown HG1.out (Nat.le_refl _) (by simp))
  clear HG1 HM c0
  go_wp2_with fail
  go_loopw [5] (fun j wr => ∃ (n : Nat) (left : List (Value × Value)), j = .int .i64 (n : Int) ∧ n + left.countP (nameIs nm) = C ∧ RngL Try.prog 3 wr M w.heap.size (L.map ent) left ∧ Below w.heap.size w wr) (fun _ wr => toCome wr M w.heap.size)
  case atStart => exact ⟨0, L.map ent, rfl, by rw [HC.out]; omega, HR1.out, HB1.out⟩
  case round =>
    clear HR1 HS1 HB1
    obtain ⟨n, left, rfl, hn, hR, hb⟩ := hrel
    have HR := hide hR
    have HB := hide hb
    have hcome := hR.come
    have Hn := hide hn
    clear hR hb hn
    go_wp2_with (refine wpList_next rfl (.tmp 12) rfl 3 M w.heap.size (L.map ent) left rfl HR.out ?_ ?_)
    · intro hl
      refine un ?_
      subst hl
      have hn : n = C := by have := Hn.out; simpa using this
      subst hn
      clear hcome
      go_wp2
      go_ret
      exact ⟨rfl, HB.out⟩
    · intro pk pv left' w2 hp HP HR2 HG2 HS2 hent
      refine un ?_
      obtain ⟨⟨x, s⟩, hu, he⟩ := ent_key hp
      unfold ent at he
      injection he with e1 e2
      subst e1 e2
      have HBx := hide (HB.out.grown HG2.out HB.out.size (by simp))
      have hcount := HP.out.countP_eq (nameIs nm)
      rw [List.countP_cons, show nameIs nm (Value.int .i64 x, Value.agg #[.string s]) = isIn nm (x, s) from rfl] at hcount
      have hl2 : left.length = left'.length + 1 := by rw [HP.out.length_eq, List.length_cons]
      have hb3 := below_new w2 (.cells #[.string s] 72)
      have HB3 := hide (keepB hb3 (Nat.le_refl _) HBx.out)
      have HR3 := hide (HR2.out.same (hb3.block M HR2.out.map.lt) (hb3.block _ HR2.out.lt))
      have hn := Hn.out
      clear hb3 hp hu HBx HP HG2 HS2 HR HB
      cases hq : (s.toList == nm.toList) with
      | true =>
        have hn2 : n + 1 + left'.countP (nameIs nm) = C := by
          rw [show isIn nm (x, s) = true from hq] at hcount
          simp at hcount
          omega
        have hw1 : IntKind.i64.wrap ((n : Int) + 1) = (n : Int) + 1 := IntWalk.i64_in _ (by omega)
        have Hn2 := hide hn2
        clear hn2 hn hcount Hn
        go_wp2
        go_roundw
        case rel => exact ⟨n + 1, left', by go_num, Hn2.out, HR3.out, HB3.out⟩
        case measure =>
          rw [hcome, HR3.out.come]
          omega
      | false =>
        have hn2 : n + left'.countP (nameIs nm) = C := by
          rw [show isIn nm (x, s) = false from hq] at hcount
          simp at hcount
          omega
        have Hn2 := hide hn2
        clear hn2 hn hcount Hn
        go_wp2
        go_roundw
        case rel => exact ⟨n, left', rfl, Hn2.out, HR3.out, HB3.out⟩
        case measure =>
          rw [hcome, HR3.out.come]
          omega
end Go.Proofs.Ytlhjkacdhfchiaa.Xc
