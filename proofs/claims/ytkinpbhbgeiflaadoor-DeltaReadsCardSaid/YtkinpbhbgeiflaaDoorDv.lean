/- delta's readToken. -/
import Derived.Test.YtkinpbhbgeiflaaDoorQh
import Derived.Test.YtkinpbhbgeiflaaDoorCz
import Derived.Test.YtkinpbhbgeiflaaDoorWy
namespace Go.Proofs.YtkinpbhbgeiflaaDoor.Dv
set_option linter.unusedVariables false
set_option linter.unusedSimpArgs false
set_option maxRecDepth 100000
open Go.ChangeShapes Go.WideShapes Go.ChangeAt Go.RowKit
open Go.Proofs.YtkinpbhbgeiflaaDoor.Wu Go.Proofs.YtkinpbhbgeiflaaDoor.Sm Go.Proofs.YtkinpbhbgeiflaaDoor.Sh Go.Proofs.YtkinpbhbgeiflaaDoor.Ba Go.Proofs.YtkinpbhbgeiflaaDoor.Bp Go.Proofs.YtkinpbhbgeiflaaDoor.Bq Go.Proofs.YtkinpbhbgeiflaaDoor.Cm Go.Proofs.YtkinpbhbgeiflaaDoor.Cr Go.Proofs.YtkinpbhbgeiflaaDoor.Er Go.Proofs.YtkinpbhbgeiflaaDoor.Eu Go.Proofs.YtkinpbhbgeiflaaDoor.Cv Go.Proofs.YtkinpbhbgeiflaaDoor.Cw Go.Proofs.YtkinpbhbgeiflaaDoor.Cz Go.Proofs.YtkinpbhbgeiflaaDoor.Rk Go.Proofs.YtkinpbhbgeiflaaDoor.Rw Go.Proofs.YtkinpbhbgeiflaaDoor.Da Go.Proofs.YtkinpbhbgeiflaaDoor.De
/-- What is wrong with the next token; 0: nothing. -/
def rtE (s : Rs) (L : List Nat) : Int :=
  if ((s.num L).num L).fe ≠ 0 then ((s.num L).num L).fe else if 0 < s.numV L then 0 else if (s.num L).numV L = 0 then 80 else if L.length < ((s.num L).num L).at_ + (s.num L).numV L then 30 else 0
def rtP (s : Rs) (L : List Nat) : Int :=
  if ((s.num L).num L).fe ≠ 0 then ((s.num L).num L).fa else if (s.num L).numV L = 0 then (s.at_ : Int) else (L.length : Int)
def rtT (s : Rs) (L : List Nat) : Tok :=
  if 0 < s.numV L then ⟨((s.num L).numV L : Int), (s.numV L : Int), []⟩ else ⟨0, 0, (L.drop ((s.num L).num L).at_).take ((s.num L).numV L)⟩
def rtS (s : Rs) (L : List Nat) : Rs :=
  if 0 < s.numV L then (s.num L).num L else ⟨((s.num L).num L).at_ + (s.num L).numV L, ((s.num L).num L).fa, ((s.num L).num L).fe⟩
def zeroT : Array Value := #[.int .i64 0, .int .i64 0, .slice none 0 0]
def TokP (w wA : World) (g : Nat) (a : Option Addr) (m c : Nat) (L : List Nat) (s : Rs) (e : Ending) (w' : World) : Prop :=
  ∃ tv ev, e = .returned (.tuple #[tv, ev]) ∧ wA.grownBy w' (some g) ∧
    ((rtE s L ≠ 0 ∧ tv = .agg zeroT ∧ ∃ b, ev = .iface 99 (.pointer (some ⟨b, 0, none⟩)) ∧ w'.heap[b]? = some (.cells #[.int .i64 (rtP s L), .int .i64 (rtE s L)] 30 (0, 0))) ∨
     (rtE s L = 0 ∧ ev = .nilIface ∧ ∃ d, tv = .agg #[.int .i64 (rtT s L).f, .int .i64 (rtT s L).c, d] ∧ Buf w' d wA.heap.size (rtT s L).d ∧ RV w w' g a m c L (rtS s L)))
theorem dst_blk {w : World} {g : Nat} {L : List Nat} {T : TypeId} (h : w.heap[g]? = some (.cells (b8 L).toArray T (0, 0))) (h8 : All8 L) (hm : L.length ≤ maxLen) : Dst w g L.length L.length L :=
  ⟨rfl, h8, Nat.le_refl _, hm, heap_lt h, fun j v hv => by rw [Nat.zero_add]; exact blk_cell h (by simpa using hv), fun j hj => by omega, fun o => blk_free h⟩
theorem b8_set (A : List Nat) (z x : Nat) (Z : List Nat) : (b8 (A ++ z :: Z)).set A.length (.int .u8 (x : Int)) = b8 (A ++ x :: Z) := by
  unfold b8
  rw [List.map_append, List.map_append, List.set_append_right _ _ (by simp), List.length_map, Nat.sub_self]
  rfl
theorem RV.grown {w wA w' : World} {g k : Nat} {a : Option Addr} {m c : Nat} {L : List Nat} {s : Rs} (h : RV w wA g a m c L s) (hsrc : ∀ u, Below w.heap.size w u → SrcB u a m L) (hg : wA.grownBy w' (some k)) (hk : k ≠ g) (hkw : w.heap.size ≤ k) : RV w w' g a m c L s := by
  have hb := belowG h.below hg hkw h.below.size
  exact ⟨(hg.block g (heap_lt h.rd) (fun e => by injection e with e; exact hk e.symm)).trans h.rd, hsrc _ hb, hb, h.new, h.apart⟩
theorem step_read {L : List Nat} {p j : Nat} (h : p + j < L.length) : (L.drop p).take (j + 1) = (L.drop p).take j ++ [L.getD (p + j) 0] := by
  rw [List.take_add_one, List.getElem?_drop]
  congr 1
  rw [List.getD, List.getElem?_eq_getElem h]
  rfl
theorem info_u8 : (Tryd.prog.info? 5).map (fun i => (i.zero, i.size, i.bytes)) = some (some (.int .u8 0), 1, 1) := by kernel_rfl
theorem num_le {s : Rs} {L : List Nat} (h : s.at_ ≤ L.length) : (s.num L).at_ ≤ L.length := (Rs.num_at s L h).1
set_option maxHeartbeats 3200000 in
theorem token_c (w wA : World) (g : Nat) (a : Option Addr) (m c : Nat) (L : List Nat) (s : Rs) (h : RV w wA g a m c L s) (hsrc : ∀ u, Below w.heap.size w u → SrcB u a m L) (hat : s.at_ ≤ m) (hmc : m ≤ c) (hm : m ≤ 1000000) :
    Calls Tryd.prog 66 #[.pointer (some ⟨g, 0, none⟩), .int .i64 (m : Int)] wA (TokP w wA g a m c L s) := by
  have hLm := h.src.1
  have h8 := h.src.2.1
  have hgl := heap_lt h.rd
  obtain ⟨s1, hs1⟩ : ∃ s1, s1 = s.num L := ⟨_, rfl⟩
  obtain ⟨s2, hs2⟩ : ∃ s2, s2 = s1.num L := ⟨_, rfl⟩
  obtain ⟨cn, hcn⟩ : ∃ cn, cn = s.numV L := ⟨_, rfl⟩
  obtain ⟨q, hq⟩ : ∃ q, q = s1.numV L := ⟨_, rfl⟩
  have ha1 : s1.at_ ≤ m := by rw [hs1, ← hLm]; exact num_le (by omega)
  have ha2 : s2.at_ ≤ m := by rw [hs2, ← hLm]; exact num_le (by omega)
  have hqb : q ≤ 1099511627776 := by rw [hq]; exact Rs.numV_max _ _
  have hcb : cn ≤ 1099511627776 := by rw [hcn]; exact Rs.numV_max _ _
  have HE : Hid (rtE s L = if s2.fe ≠ 0 then s2.fe else if 0 < cn then 0 else if q = 0 then 80 else if m < s2.at_ + q then 30 else 0) := hide (by unfold rtE; rw [← hs1, ← hs2, ← hcn, ← hq, hLm])
  have HPl : Hid (rtP s L = if s2.fe ≠ 0 then s2.fa else if q = 0 then (s.at_ : Int) else (m : Int)) := hide (by unfold rtP; rw [← hs1, ← hs2, ← hq, hLm])
  have HTk : Hid (rtT s L = if 0 < cn then ⟨(q : Int), (cn : Int), []⟩ else ⟨0, 0, (L.drop s2.at_).take q⟩) := hide (by unfold rtT; rw [← hs1, ← hs2, ← hcn, ← hq])
  have HSt : Hid (rtS s L = if 0 < cn then s2 else ⟨s2.at_ + q, s2.fa, s2.fe⟩) := hide (by unfold rtS; rw [← hs1, ← hs2, ← hcn, ← hq])
  have HN1 := hide (fun (u : World) (hu : RV w u g a m c L s) => num_c g a m c L s u hu.rd hu.src hat hmc (by omega))
  have HN2 := hide (fun (u : World) (hu : RV w u g a m c L s1) => num_c g a m c L s1 u hu.rd hu.src ha1 hmc (by omega))
  rw [← hs1, ← hcn] at HN1
  rw [← hs2, ← hq] at HN2
  have HSr := hide hsrc
  have HL8 := hide h8
  have HLm := hide hLm
  have HR0 := hide (h.up (below_new wA (.cells #[.int .i64 0, .int .i64 0, .slice none 0 0] 68)))
  have HR := hide (heap_last wA (.cells #[.int .i64 0, .int .i64 0, .slice none 0 0] 68))
  have HG := hide (below_grown (below_new wA (.cells #[.int .i64 0, .int .i64 0, .slice none 0 0] 68)) (some g))
  have hneg : wA.heap.size ≠ g := by omega
  have hwwr : w.heap.size ≤ wA.heap.size := h.below.size
  clear hs1 hs2 hcn hq h hsrc h8 hLm
  have hz3 : ∀ (f k : Int) (x : Option Addr) (y z : Nat), (#[Value.int .i64 f, .int .i64 k, .slice x y z] : Array Value).all (·.oneCell') = true := fun f k x y z =>
    all_oneCell_toArray (by intro v hv; simp only [List.mem_cons, List.not_mem_nil, or_false] at hv; rcases hv with rfl | rfl | rfl <;> rfl)
  go_enter Tryd.func66, Tryd.ntmps66
  go_wp2_with fail
  refine (at_c g a m c s _ HR0.out.rd).mono ?_
  generalize (wA.alloc (.cells #[.int .i64 0, .int .i64 0, .slice none 0 0] 68)) = w0 at *
  rintro e w1 ⟨rfl, rfl⟩
  go_wp2_with fail
  refine (HN1.out w0 HR0.out).mono ?_
  rintro e w2 ⟨rfl, hr2, hg2⟩
  have HR2 := hide (HR0.out.step hr2 hg2)
  have HC2 := hide ((hg2.block _ (heap_lt HR.out) (fun e => by injection e with e; exact hneg e)).trans HR.out)
  have HG2 := hide (grown_trans HG.out hg2)
  clear hr2 hg2 HR0 HR HG HN1
  go_wp2_with fail
  refine (HN2.out w2 HR2.out).mono ?_
  rintro e w3 ⟨rfl, hr3, hg3⟩
  have HR3 := hide (HR2.out.step hr3 hg3)
  have HC3 := hide ((hg3.block _ (heap_lt HC2.out) (fun e => by injection e with e; exact hneg e)).trans HC2.out)
  have HG3 := hide (grown_trans HG2.out hg3)
  clear hr3 hg3 HR2 HC2 HG2 HN2
  have HEr := hide (err_c g a m c s2 w3 HR3.out.rd)
  go_wp2_with fail
  refine HEr.out.mono ?_
  rintro e w4 ⟨ev, rfl, hev, hb4⟩
  have HR4 := hide (HR3.out.up hb4)
  have HC4 := hide (below_blk hb4 (heap_lt HC3.out) HC3.out)
  have HG4 := hide (Cw.grown_below HG3.out hb4)
  have hR3 : wA.heap.size < w3.heap.size := heap_lt HC3.out
  have hR4 : wA.heap.size < w4.heap.size := Nat.lt_of_lt_of_le hR3 hb4.size
  clear hb4 HR3 HC3 HG3 HEr
  rcases hev with ⟨hfe, rfl⟩ | ⟨hfe, rfl, hbf⟩
  · by_cases hc0 : 0 < cn
    · have d1 : decide ((0 : Int) < (cn : Int)) = true := by simp; omega
      have d1' : decide (0 < cn) = true := by simpa using hc0
      have HP := hide (show rtE s L = 0 ∧ rtT s L = ⟨(q : Int), (cn : Int), []⟩ ∧ rtS s L = s2 from ⟨by rw [HE.out, if_neg (by simpa using hfe), if_pos hc0], by rw [HTk.out, if_pos hc0], by rw [HSt.out, if_pos hc0]⟩)
      clear hc0 hfe HE HPl HTk HSt
      go_wp2_with (refine wpList_store_all rfl 68 _ _ rfl wA.heap.size #[.int .i64 (q : Int), .int .i64 (cn : Int), .slice none 0 0] _ 68 rfl rfl HC4.out rfl (by kernel_rfl) (hz3 _ _ _ _ _) ?_)
      intro w5 H5 HGs
      refine of_hid ?_
      have HR5 := hide (RV.grown HR4.out HSr.out HGs.out hneg hwwr)
      have HG6 : Hid (wA.grownBy w5 (some g)) := hide ⟨HGs.out.os.trans HG4.out.os, HGs.out.tape.trans HG4.out.tape, HGs.out.output.trans HG4.out.output, Nat.le_trans HG4.out.size HGs.out.size, fun k hk hne => (HGs.out.block k (Nat.lt_of_lt_of_le hk HG4.out.size) (fun e => by injection e with e; omega)).trans (HG4.out.block k hk hne)⟩
      clear HR4 HC4 HG4 HGs
      go_wp2
      refine bodyPost_ret (v := .tuple #[.agg #[.int .i64 (q : Int), .int .i64 (cn : Int), .slice none 0 0], .nilIface]) ?_ rfl ?_
      have hl := load_all (P := Tryd.prog) 68 H5.out _ Tryd.underlying68 rfl (by kernel_rfl)
      simp [results, Tryd.results66, asAddr, hl]
      exact ⟨_, _, rfl, HG6.out, .inr ⟨HP.out.1, rfl, _, by rw [HP.out.2.1], .inl ⟨rfl, by rw [HP.out.2.1]⟩, by rw [HP.out.2.2]; exact HR5.out⟩⟩
    · obtain rfl : cn = 0 := by omega
      by_cases hq0 : q = 0
      · subst hq0
        have HF := hide (heap_last w4 (.cells #[.int .i64 ((s.at_ : Int)), .int .i64 80] 30))
        have HC5 := hide (heap_old HC4.out (.cells #[.int .i64 ((s.at_ : Int)), .int .i64 80] 30))
        have HG5 := hide (Cw.grown_below HG4.out (below_new w4 (.cells #[.int .i64 ((s.at_ : Int)), .int .i64 80] 30)))
        have HP := hide (show rtE s L = 80 ∧ rtP s L = (s.at_ : Int) from ⟨by rw [HE.out, if_neg (by simpa using hfe), if_neg (by omega), if_pos rfl], by rw [HPl.out, if_neg (by simpa using hfe), if_pos rfl]⟩)
        clear hfe HE HPl HTk HSt
        clear HR4 HC4 HG4
        go_wp2_with (refine wpList_store_all rfl 68 _ _ rfl wA.heap.size #[.int .i64 0, .int .i64 0, .slice none 0 0] _ 68 rfl rfl HC5.out rfl (by kernel_rfl) (hz3 _ _ _ _ _) ?_)
        intro w5 H5 HGs
        refine of_hid ?_
        have HF5 := hide ((HGs.out.block _ (heap_lt HF.out) (fun e => by injection e with e; omega)).trans HF.out)
        have HG6 : Hid (wA.grownBy w5 (some g)) := hide ⟨HGs.out.os.trans HG5.out.os, HGs.out.tape.trans HG5.out.tape, HGs.out.output.trans HG5.out.output, Nat.le_trans HG5.out.size HGs.out.size, fun k hk hne => (HGs.out.block k (Nat.lt_of_lt_of_le hk HG5.out.size) (fun e => by injection e with e; omega)).trans (HG5.out.block k hk hne)⟩
        clear HF HC5 HG5 HGs
        go_wp2
        refine bodyPost_ret (v := .tuple #[.agg #[.int .i64 0, .int .i64 0, .slice none 0 0], .iface 99 (.pointer (some ⟨w4.heap.size, 0, none⟩))]) ?_ rfl ?_
        have hl := load_all (P := Tryd.prog) 68 H5.out _ Tryd.underlying68 rfl (by kernel_rfl)
        simp [results, Tryd.results66, asAddr, hl]
        exact ⟨_, _, rfl, HG6.out, .inl ⟨by rw [HP.out.1]; decide, rfl, _, rfl, by rw [HP.out.1, HP.out.2]; exact HF5.out⟩⟩
      · have d2 : ((q : Int) == 0) = false := by simpa using hq0
        have d2' : (q == 0) = false := by simpa using hq0
        have hAt := hide (at_c g a m c s2 w4 HR4.out.rd)
        have hwm : IntKind.i64.wrap ((m : Int) - (s2.at_ : Int)) = (m : Int) - (s2.at_ : Int) := IntWalk.i64_in _ (by omega)
        by_cases hfit : m < s2.at_ + q
        · have d3 : decide ((m : Int) - (s2.at_ : Int) < (q : Int)) = true := by simp; omega
          go_wp2_with fail
          refine hAt.out.mono ?_
          rintro e w4' ⟨rfl, rfl⟩
          have HF := hide (heap_last w4 (.cells #[.int .i64 ((m : Int)), .int .i64 30] 30))
          have HC5 := hide (heap_old HC4.out (.cells #[.int .i64 ((m : Int)), .int .i64 30] 30))
          have HG5 := hide (Cw.grown_below HG4.out (below_new w4 (.cells #[.int .i64 ((m : Int)), .int .i64 30] 30)))
          have HP := hide (show rtE s L = 30 ∧ rtP s L = (m : Int) from ⟨by rw [HE.out, if_neg (by simpa using hfe), if_neg (by omega), if_neg hq0, if_pos hfit], by rw [HPl.out, if_neg (by simpa using hfe), if_neg hq0]⟩)
          clear hfe HE HPl HTk HSt hAt
          clear HR4 HC4 HG4
          go_wp2_with (refine wpList_store_all rfl 68 _ _ rfl wA.heap.size #[.int .i64 0, .int .i64 0, .slice none 0 0] _ 68 rfl rfl HC5.out rfl (by kernel_rfl) (hz3 _ _ _ _ _) ?_)
          intro w5 H5 HGs
          refine of_hid ?_
          have HF5 := hide ((HGs.out.block _ (heap_lt HF.out) (fun e => by injection e with e; omega)).trans HF.out)
          have HG6 : Hid (wA.grownBy w5 (some g)) := hide ⟨HGs.out.os.trans HG5.out.os, HGs.out.tape.trans HG5.out.tape, HGs.out.output.trans HG5.out.output, Nat.le_trans HG5.out.size HGs.out.size, fun k hk hne => (HGs.out.block k (Nat.lt_of_lt_of_le hk HG5.out.size) (fun e => by injection e with e; omega)).trans (HG5.out.block k hk hne)⟩
          clear HF HC5 HG5 HGs
          go_wp2
          refine bodyPost_ret (v := .tuple #[.agg #[.int .i64 0, .int .i64 0, .slice none 0 0], .iface 99 (.pointer (some ⟨w4.heap.size, 0, none⟩))]) ?_ rfl ?_
          have hl := load_all (P := Tryd.prog) 68 H5.out _ Tryd.underlying68 rfl (by kernel_rfl)
          simp [results, Tryd.results66, asAddr, hl]
          exact ⟨_, _, rfl, HG6.out, .inl ⟨by rw [HP.out.1]; decide, rfl, _, rfl, by rw [HP.out.1, HP.out.2]; exact HF5.out⟩⟩
        · have d3 : decide ((m : Int) - (s2.at_ : Int) < (q : Int)) = false := by simp; omega
          go_wp2_with fail
          refine hAt.out.mono ?_
          rintro e w4' ⟨rfl, rfl⟩
          have HP := hide (show rtE s L = 0 ∧ rtT s L = ⟨0, 0, (L.drop s2.at_).take q⟩ ∧ rtS s L = ⟨s2.at_ + q, s2.fa, s2.fe⟩ from ⟨by rw [HE.out, if_neg (by simpa using hfe), if_neg (by omega), if_neg hq0, if_neg hfit], by rw [HTk.out, if_neg (by omega)], by rw [HSt.out, if_neg (by omega)]⟩)
          obtain ⟨i0, hi0, hz0, hz1, hz2⟩ := info_parts info_u8
          obtain ⟨w5, hrun, hown, hgrow⟩ := run_make_full (P := Tryd.prog) w4 w4.heap.size 22 5 i0 (.int .u8 0) 1 Tryd.underlying22 hi0 hz0 hz1 .i64 .i64 q (by rw [hz2]; omega) (by unfold maxLen; omega) (Nat.le_refl _)
          have hown' : w5.ownsRow w4.heap.size 5 1 (.slice (some ⟨w4.heap.size, 0, none⟩) q q) q (List.replicate q (.int .u8 0)) := by
            have e : (madeCells (Value.int .u8 0).cells (q * 1)).toList = List.replicate q (.int .u8 0) := by
              rw [Nat.mul_one]; exact toList_madeCells_one _ q
            rw [e] at hown
            exact hown
          have hbr := Wy.made_brow hown'
          have HD5 : Hid (w5.heap[w4.heap.size]? = some (.cells (b8 ((L.drop s2.at_).take 0 ++ zeros (q - 0))).toArray 5 (0, 0))) := hide (by
            unfold Wy.BRow at hbr
            rw [hbr]
            simp [b8, zeros])
          have hb45 : Below w4.heap.size w4 w5 := ⟨hgrow.os, hgrow.tape, hgrow.output, hgrow.size, fun k hk => hgrow.block k hk (fun e => by cases e)⟩
          have HR5 := hide (HR4.out.up hb45)
          have HC5 := hide (below_blk hb45 (heap_lt HC4.out) HC4.out)
          have HG5 := hide (Cw.grown_below HG4.out hb45)
          have hg4 : g < w4.heap.size := heap_lt HR4.out.rd
          obtain ⟨D, hD⟩ : ∃ D, D = w4.heap.size := ⟨_, rfl⟩
          rw [← hD] at HD5 hrun hR4 hg4
          have hwD : w.heap.size ≤ D := by rw [hD]; exact HR4.out.below.size
          have hfe2 := hide hfe
          clear hown hown' hbr hb45 hgrow HR4 HC4 HG4 hi0 hz0 hz1 hz2 hD hfe hAt
          have hq1 : q ≤ m := by omega
          go_wp2_with fail
          clear hrun
          go_loopw [55] (fun j wq => ∃ i, j = .int .i64 ((i : Nat) : Int) ∧ i ≤ q ∧ wq.heap[D]? = some (.cells (b8 ((L.drop s2.at_).take i ++ zeros (q - i))).toArray 5 (0, 0)) ∧ RV w wq g a m c L ⟨s2.at_ + i, s2.fa, s2.fe⟩ ∧ wq.heap[wA.heap.size]? = some (.cells #[.int .i64 0, .int .i64 0, .slice none 0 0] 68 (0, 0)) ∧ wA.grownBy wq (some g)) (fun j _ => q - (intOf j).toNat)
          case atStart => exact ⟨0, rfl, Nat.zero_le _, HD5.out, HR5.out, HC5.out, HG5.out⟩
          case round =>
            clear HD5 HR5 HC5 HG5
            obtain ⟨i, rfl, hi, hd, hr, hcc, hgg⟩ := hrel
            have HD := hide hd
            have HRv := hide hr
            have HCc := hide hcc
            have HGg := hide hgg
            clear hd hr hcc hgg
            by_cases hlt : i < q
            · have e1 : decide ((i : Int) < (q : Int)) = true := by simpa using hlt
              have i1 : (0 : Int) ≤ (i : Int) := by omega
              have i2 : (i : Int) < (q : Int) := by omega
              have hby := byte_c g a m c L ⟨s2.at_ + i, s2.fa, s2.fe⟩ _ HRv.out.rd HRv.out.src HRv.out.apart (by simp only; omega) hmc (by omega)
              have hhas : Rs.has ⟨s2.at_ + i, s2.fa, s2.fe⟩ L.length 1 = ⟨s2.at_ + i, s2.fa, s2.fe⟩ := by
                unfold Rs.has
                rw [if_neg]
                rintro ⟨_, h2⟩
                have := HLm.out
                simp only at h2
                omega
              have hbs : Rs.byte ⟨s2.at_ + i, s2.fa, s2.fe⟩ L = ⟨s2.at_ + (i + 1), s2.fa, s2.fe⟩ ∧ Rs.byteV ⟨s2.at_ + i, s2.fa, s2.fe⟩ L = L.getD (s2.at_ + i) 0 := by
                unfold Rs.byte Rs.byteV
                rw [hhas, if_pos hfe2.out, if_pos hfe2.out]
                exact ⟨rfl, rfl⟩
              rw [hbs.1, hbs.2] at hby
              have Hby := hide hby
              have Hst := hide (step_read (L := L) (p := s2.at_) (j := i) (by have := HLm.out; omega))
              obtain ⟨x, hx⟩ : ∃ x, x = L.getD (s2.at_ + i) 0 := ⟨_, rfl⟩
              rw [← hx] at Hby Hst
              clear hby hhas hbs hx
              go_wp2_with fail
              refine Hby.out.mono ?_
              rintro e w7 ⟨rfl, hr7, hg7⟩
              have HR7 := hide (HRv.out.step hr7 hg7)
              have HD7 := hide ((hg7.block D (heap_lt HD.out) (fun e => by injection e with e; omega)).trans HD.out)
              have HC7 := hide ((hg7.block _ (heap_lt HCc.out) (fun e => by injection e with e; exact hneg e)).trans HCc.out)
              have HG7 := hide (grown_trans HGg.out hg7)
              clear hr7 hg7 HRv HD HCc HGg Hby
              have hAl : ((L.drop s2.at_).take i).length = i := by rw [List.length_take, List.length_drop, HLm.out]; omega
              have hcell : w7.cell? ⟨D, i, none⟩ = some (.int .u8 0) := blk_cell HD7.out (by
                rw [show q - i = (q - (i + 1)) + 1 by omega]
                simp only [List.getElem?_toArray, b8, zeros, List.replicate_succ]
                rw [List.getElem?_map, List.getElem?_append_right (by omega), hAl, Nat.sub_self]
                rfl)
              have hfr : w7.frozen? ⟨D, i, none⟩ = false := blk_free HD7.out
              have HD8 : Hid ((w7.setCell ⟨D, i, none⟩ (.int .u8 (x : Int))).heap[D]? = some (.cells (b8 ((L.drop s2.at_).take (i + 1) ++ zeros (q - (i + 1)))).toArray 5 (0, 0))) := hide (by
                rw [blk_set HD7.out]
                congr 2
                rw [show q - i = (q - (i + 1)) + 1 by omega]
                apply Array.toList_inj.1
                rw [Array.toList_setIfInBounds]
                have hb := b8_set ((L.drop s2.at_).take i) 0 x (zeros (q - (i + 1)))
                rw [hAl] at hb
                rw [Hst.out, List.append_assoc]
                exact hb)
              have hgs := grown_setCell (World.grownBy.refl w7 (some D)) i (.int .u8 (x : Int))
              have HR8 := hide (RV.grown HR7.out HSr.out hgs (by omega) hwD)
              have HC8 := hide ((hgs.block _ (heap_lt HC7.out) (fun e => by injection e with e; omega)).trans HC7.out)
              have HG8 : Hid (wA.grownBy (w7.setCell ⟨D, i, none⟩ (.int .u8 (x : Int))) (some g)) := hide ⟨hgs.os.trans HG7.out.os, hgs.tape.trans HG7.out.tape, hgs.output.trans HG7.out.output, Nat.le_trans HG7.out.size hgs.size, fun k hk hne => (hgs.block k (Nat.lt_of_lt_of_le hk HG7.out.size) (fun e => by injection e with e; omega)).trans (HG7.out.block k hk hne)⟩
              clear HD7 HR7 HC7 HG7 hgs hAl Hst
              go_wp2
              go_roundw
              case rel => exact ⟨i + 1, by go_num, by omega, HD8.out, HR8.out, HC8.out, HG8.out⟩
              case measure => simp [intOf]; omega
            · obtain rfl : i = q := by omega
              have e1 : decide ((i : Int) < (i : Int)) = false := by simp
              have e1' : decide (i < i) = false := by simp
              have hAl : ((L.drop s2.at_).take i).length = i := by rw [List.length_take, List.length_drop, HLm.out]; omega
              have HD2 : Hid (wr.heap[D]? = some (.cells (b8 ((L.drop s2.at_).take i)).toArray 5 (0, 0))) := hide (by
                have h1 := HD.out
                rw [Nat.sub_self, show zeros 0 = ([] : List Nat) from rfl, List.append_nil] at h1
                exact h1)
              clear HD hi
              go_wp2_with (refine wpList_store_all rfl 68 _ _ rfl wA.heap.size #[.int .i64 0, .int .i64 0, .slice (some ⟨D, 0, none⟩) i i] _ 68 rfl rfl HCc.out rfl (by kernel_rfl) (hz3 _ _ _ _ _) ?_)
              intro w8 H5 HGs
              refine of_hid ?_
              have HD8 := hide ((HGs.out.block D (heap_lt HD2.out) (fun e => by injection e with e; omega)).trans HD2.out)
              have HR8 := hide (RV.grown HRv.out HSr.out HGs.out hneg hwwr)
              have HG8 : Hid (wA.grownBy w8 (some g)) := hide ⟨HGs.out.os.trans HGg.out.os, HGs.out.tape.trans HGg.out.tape, HGs.out.output.trans HGg.out.output, Nat.le_trans HGg.out.size HGs.out.size, fun k hk hne => (HGs.out.block k (Nat.lt_of_lt_of_le hk HGg.out.size) (fun e => by injection e with e; omega)).trans (HGg.out.block k hk hne)⟩
              have HBf : Hid (Buf w8 (.slice (some ⟨D, 0, none⟩) i i) wA.heap.size ((L.drop s2.at_).take i)) := hide (.inr ⟨D, i, by rw [hAl], by omega, by
                have := dst_blk HD8.out (all8_take (all8_drop HL8.out _) _) (by rw [hAl]; unfold maxLen; omega)
                rw [hAl] at this ⊢
                exact this⟩)
              clear HD2 HRv HCc HGg HGs HD8 hAl
              go_wp2
              refine bodyPost_ret (v := .tuple #[.agg #[.int .i64 0, .int .i64 0, .slice (some ⟨D, 0, none⟩) i i], .nilIface]) ?_ rfl ?_
              have hl := load_all (P := Tryd.prog) 68 H5.out _ Tryd.underlying68 rfl (by kernel_rfl)
              simp [results, Tryd.results66, asAddr, hl]
              exact ⟨_, _, rfl, HG8.out, .inr ⟨HP.out.1, rfl, _, by rw [HP.out.2.1], by rw [HP.out.2.1]; exact HBf.out, by rw [HP.out.2.2]; exact HR8.out⟩⟩
  · have HP := hide (show rtE s L = s2.fe ∧ rtP s L = s2.fa ∧ s2.fe ≠ 0 from ⟨by rw [HE.out, if_pos hfe], by rw [HPl.out, if_pos hfe], hfe⟩)
    have HBf := hide hbf
    clear hfe hbf HE HPl HTk HSt
    go_wp2_with (refine wpList_store_all rfl 68 _ _ rfl wA.heap.size #[.int .i64 0, .int .i64 0, .slice none 0 0] _ 68 rfl rfl HC4.out rfl (by kernel_rfl) (hz3 _ _ _ _ _) ?_)
    intro w5 H5 HGs
    refine of_hid ?_
    have HF5 := hide ((HGs.out.block _ (heap_lt HBf.out) (fun e => by injection e with e; omega)).trans HBf.out)
    have HG6 : Hid (wA.grownBy w5 (some g)) := hide ⟨HGs.out.os.trans HG4.out.os, HGs.out.tape.trans HG4.out.tape, HGs.out.output.trans HG4.out.output, Nat.le_trans HG4.out.size HGs.out.size, fun k hk hne => (HGs.out.block k (Nat.lt_of_lt_of_le hk HG4.out.size) (fun e => by injection e with e; omega)).trans (HG4.out.block k hk hne)⟩
    clear HR4 HC4 HG4 HGs HBf
    go_wp2
    refine bodyPost_ret (v := .tuple #[.agg #[.int .i64 0, .int .i64 0, .slice none 0 0], .iface 99 (.pointer (some ⟨w3.heap.size, 0, none⟩))]) ?_ rfl ?_
    have hl := load_all (P := Tryd.prog) 68 H5.out _ Tryd.underlying68 rfl (by kernel_rfl)
    simp [results, Tryd.results66, asAddr, hl]
    exact ⟨_, _, rfl, HG6.out, .inl ⟨by rw [HP.out.1]; exact HP.out.2.2, rfl, _, rfl, by rw [HP.out.1, HP.out.2.1]; exact HF5.out⟩⟩
end Go.Proofs.YtkinpbhbgeiflaaDoor.Dv
