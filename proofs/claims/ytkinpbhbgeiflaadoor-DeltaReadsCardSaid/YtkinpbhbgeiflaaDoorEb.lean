/- Reference 07's Read. -/
import Derived.Test.YtkinpbhbgeiflaaDoorEa
import Derived.Test.YtkinpbhbgeiflaaDoorDy
import Derived.Test.YtkinpbhbgeiflaaDoorRc
namespace Go.Proofs.YtkinpbhbgeiflaaDoor.Eb
set_option linter.unusedVariables false
set_option linter.unusedSimpArgs false
set_option maxRecDepth 100000
open Go.ChangeShapes Go.WideShapes Go.ChangeAt Go.RowKit
open Go.Proofs.YtkinpbhbgeiflaaDoor.Wu Go.Proofs.YtkinpbhbgeiflaaDoor.Sm Go.Proofs.YtkinpbhbgeiflaaDoor.Sh Go.Proofs.YtkinpbhbgeiflaaDoor.Ba Go.Proofs.YtkinpbhbgeiflaaDoor.Bp Go.Proofs.YtkinpbhbgeiflaaDoor.Bq Go.Proofs.YtkinpbhbgeiflaaDoor.Bs Go.Proofs.YtkinpbhbgeiflaaDoor.Cm Go.Proofs.YtkinpbhbgeiflaaDoor.Cr Go.Proofs.YtkinpbhbgeiflaaDoor.Cv Go.Proofs.YtkinpbhbgeiflaaDoor.Cw Go.Proofs.YtkinpbhbgeiflaaDoor.Cz Go.Proofs.YtkinpbhbgeiflaaDoor.Ra Go.Proofs.YtkinpbhbgeiflaaDoor.Rq Go.Proofs.YtkinpbhbgeiflaaDoor.Rc Go.Proofs.YtkinpbhbgeiflaaDoor.Rk Go.Proofs.YtkinpbhbgeiflaaDoor.Rw Go.Proofs.YtkinpbhbgeiflaaDoor.Rn Go.Proofs.YtkinpbhbgeiflaaDoor.Da Go.Proofs.YtkinpbhbgeiflaaDoor.Db Go.Proofs.YtkinpbhbgeiflaaDoor.Do Go.Proofs.YtkinpbhbgeiflaaDoor.Dp Go.Proofs.YtkinpbhbgeiflaaDoor.Dv Go.Proofs.YtkinpbhbgeiflaaDoor.Dw
attribute [local go_sem] kUpon_value kUpon_skip kUpon_enter
def RefP (w : World) (L : List Nat) (e : Ending) (w' : World) : Prop :=
  ∃ v code at_, e = .returned (.tuple #[v, .int .i64 code, .int .i64 at_]) ∧ Below w.heap.size w w' ∧
    ((∃ ts, readR L = .ok ts ∧ OwnR w' w.heap.size v ts ∧ code = 0 ∧ at_ = 0 ∧ ts.length ≤ 8192) ∨ (readR L = .bad code at_ ∧ code ≠ 0 ∧ v = .slice none 0 0))
theorem rd4_all (s : ByteArray) (x y z : Int) : (#[Value.string s, .int .i64 x, .int .i64 y, .int .i64 z] : Array Value).all (·.oneCell') = true :=
  all_oneCell_toArray (by intro v hv; simp only [List.mem_cons, List.not_mem_nil, or_false] at hv; rcases hv with rfl | rfl | rfl | rfl <;> rfl)
theorem cells4 {w : World} {B : Nat} {x y z t : Value} {T : TypeId} (h : w.heap[B]? = some (.cells #[x, y, z, t] T (0, 0))) : w.cell? ⟨B, 0, none⟩ = some x ∧ w.cell? ⟨B, 1, none⟩ = some y ∧ w.cell? ⟨B, 2, none⟩ = some z ∧ w.cell? ⟨B, 3, none⟩ = some t :=
  ⟨blk_cell h rfl, blk_cell h rfl, blk_cell h rfl, blk_cell h rfl⟩
set_option maxHeartbeats 3200000 in
theorem refread_c (L : List Nat) (w : World) (h8 : All8 L) (hm : L.length ≤ 1000000) :
    Calls Tryd.prog 31 #[.string (strN L)] w (RefP w L) := by
  obtain ⟨s1, hs1⟩ : ∃ s1, s1 = (Rs.mk 0 0 0).num L := ⟨_, rfl⟩
  obtain ⟨n, hn⟩ : ∃ n, n = (Rs.mk 0 0 0).numV L := ⟨_, rfl⟩
  have ha1 : s1.at_ ≤ L.length := by rw [hs1]; exact num_le (by simp)
  have hnb : n ≤ 1099511627776 := by rw [hn]; exact Rs.numV_max _ _
  have HRd : Hid (readR L = if s1.fe ≠ 0 then .bad s1.fe s1.fa else if 8192 < n then .bad 2 0 else readN L n s1 []) := hide (by unfold readR; rw [← hs1, ← hn])
  have HQ := hide (fun u : World => num_q L ⟨0, 0, 0⟩ (qv L 0 0 0) u h8 (by omega) (by simp) ⟨0, 0, rfl, fun _ => rfl, fun h => absurd rfl h⟩)
  rw [← hs1, ← hn] at HQ
  unfold qv at HQ
  have H8 := hide h8
  clear hs1 hn h8
  go_enter Tryd.func31, Tryd.ntmps31
  go_wp2_with fail
  (with_reducible refine Calls.mono (HQ.out _) ?_)
  rintro e w1 ⟨v1, rfl, hq1, hb1⟩
  obtain ⟨at1, bad1, rfl, hat1, hbad1⟩ := qof_form hq1
  unfold qv
  have HB1 := hide hb1
  have HA1 := hide hat1
  have HD1 := hide hbad1
  clear HQ hq1 hb1 hat1 hbad1
  obtain ⟨fe1, hfe1⟩ : ∃ fe1, fe1 = s1.fe := ⟨_, rfl⟩
  rw [← hfe1] at HRd HA1 HD1 ⊢
  have Hfe1 := hide hfe1
  clear hfe1
  go_wp2_with (refine wpList_store_all rfl 141 _ _ rfl w1.heap.size #[.string (strN L), .int .i64 at1, .int .i64 fe1, .int .i64 bad1] _ 141 rfl rfl (heap_last _ _) rfl (by kernel_rfl) (rd4_all _ _ _ _) ?_)
  intro w2 H2 HG2
  refine of_hid ?_
  have HB2 := hide (keepB (belowG (below_new w1 (.cells #[.string ByteArray.empty, .int .i64 0, .int .i64 0, .int .i64 0] 141)) HG2.out (Nat.le_refl _) (by simp)) (Nat.le_refl _) HB1.out)
  have hB : w.heap.size ≤ w1.heap.size := HB1.out.size
  clear HG2 HB1
  generalize w1.heap.size = B at *
  obtain ⟨c0, c1, c2, c3⟩ := cells4 H2.out
  by_cases hfe : fe1 = 0
  · subst hfe
    obtain rfl : at1 = (s1.at_ : Int) := HA1.out rfl
    by_cases hbig : 8192 < n
    · have HP : Hid (readR L = .bad 2 0) := hide (by rw [HRd.out, if_neg (by simp), if_pos hbig])
      have d1 : decide ((8192 : Int) < (n : Int)) = true := by simp; omega
      have d1' : decide (8192 < n) = true := by simpa using hbig
      go_wp2
      go_ret3
      exact ⟨_, _, _, rfl, HB2.out, .inr ⟨HP.out, by decide, rfl⟩⟩
    have HRd2 : Hid (readR L = readN L n s1 []) := hide (by rw [HRd.out, if_neg (by simp), if_neg hbig])
    have d1 : decide ((8192 : Int) < (n : Int)) = false := by simp; omega
    have d1' : decide (8192 < n) = false := by simpa using hbig
    clear HRd HA1 HD1
    have hfs : s1.fe = 0 := Hfe1.out.symm
    go_wp2_with fail
    go_loopw [7, 8] (fun x j wr => ∃ i v, v = x ∧ j = .int .i64 ((i : Nat) : Int) ∧ i ≤ n ∧ ∃ (s : Rs) (ts : List Tok) (bad : Int), readR L = readN L (n - i) s ts ∧ ts.length = i ∧ s.at_ ≤ L.length ∧ s.fe = 0 ∧ OwnR wr (B + 1) v ts ∧ wr.heap[B]? = some (.cells #[.string (strN L), .int .i64 (s.at_ : Int), .int .i64 0, .int .i64 bad] 141 (0, 0)) ∧ Below w.heap.size w wr) (fun _ j _ => n - (intOf j).toNat)
    case atStart => exact ⟨0, _, rfl, rfl, Nat.zero_le _, s1, [], bad1, HRd2.out, rfl, ha1, hfs, OwnR.nil _ _, H2.out, HB2.out⟩
    case round =>
      clear HRd2 H2 HB2 c0 c1 c2 c3
      obtain ⟨i, v, rfl, rfl, hi, s, ts, bad, hrd, hln, hat, hfe0, hO, hq, hB0⟩ := hrel
      have HRd := hide hrd
      have HO := hide hO
      have HQ := hide hq
      have HBw := hide hB0
      have Hfe0 := hide hfe0
      have hBw : B < wr.heap.size := heap_lt hq
      clear hrd hO hq hB0 hfe0
      obtain ⟨c0, c1, c2, c3⟩ := cells4 HQ.out
      by_cases hlt : i < n
      · have e1 : decide ((i : Int) < (n : Int)) = true := by simpa using hlt
        have HStep : Hid (readR L = if rtE s L ≠ 0 then .bad (rtE s L) (rtP s L) else readN L (n - (i + 1)) (rtS s L) (ts ++ [rtT s L])) := hide (by
          rw [HRd.out, show n - i = (n - (i + 1)) + 1 by omega, readN])
        obtain ⟨sa, hsa⟩ : ∃ sa, sa = s.num L := ⟨_, rfl⟩
        obtain ⟨sb, hsb⟩ : ∃ sb, sb = sa.num L := ⟨_, rfl⟩
        obtain ⟨cn, hcn⟩ : ∃ cn, cn = s.numV L := ⟨_, rfl⟩
        obtain ⟨q, hq⟩ : ∃ q, q = sa.numV L := ⟨_, rfl⟩
        have ha1 : sa.at_ ≤ L.length := by rw [hsa]; exact num_le hat
        have ha2 : sb.at_ ≤ L.length := by rw [hsb]; exact num_le ha1
        have hqb : q ≤ 1099511627776 := by rw [hq]; exact Rs.numV_max _ _
        have hcb : cn ≤ 1099511627776 := by rw [hcn]; exact Rs.numV_max _ _
        have HE : Hid (rtE s L = if sb.fe ≠ 0 then sb.fe else if 0 < cn then 0 else if q = 0 then 80 else if L.length < sb.at_ + q then 30 else 0) := hide (by unfold rtE; rw [← hsa, ← hsb, ← hcn, ← hq])
        have HPl : Hid (rtP s L = if sb.fe ≠ 0 then sb.fa else if q = 0 then (s.at_ : Int) else (L.length : Int)) := hide (by unfold rtP; rw [← hsa, ← hsb, ← hq])
        have HTk : Hid (rtT s L = if 0 < cn then ⟨(q : Int), (cn : Int), []⟩ else ⟨0, 0, (L.drop sb.at_).take q⟩) := hide (by unfold rtT; rw [← hsa, ← hsb, ← hcn, ← hq])
        have HSt : Hid (rtS s L = if 0 < cn then sb else ⟨sb.at_ + q, sb.fa, sb.fe⟩) := hide (by unfold rtS; rw [← hsa, ← hsb, ← hcn, ← hq])
        have HN1 := hide (fun u : World => num_q L s (qv L (s.at_ : Int) 0 bad) u H8.out (by omega) hat ⟨(s.at_ : Int), bad, by rw [Hfe0.out], fun _ => rfl, fun h => absurd Hfe0.out h⟩)
        have HN2 := hide (fun (u : World) (v : Value) (hv : Qof L sa v) => num_q L sa v u H8.out (by omega) ha1 hv)
        rw [← hsa, ← hcn] at HN1
        rw [← hsb, ← hq] at HN2
        unfold qv at HN1
        clear hsa hsb hcn hq HRd
        go_wp2_with (first
          | (refine wpList_load_all rfl 141 _ rfl B #[.string (strN L), .int .i64 (s.at_ : Int), .int .i64 0, .int .i64 bad] 141 (0, 0) rfl HQ.out _ Tryd.underlying141 rfl (by kernel_rfl) ?_)
          | fail)
        (with_reducible refine Calls.mono (HN1.out _) ?_)
        rintro e w4 ⟨v1, rfl, hq1, hb4⟩
        obtain ⟨at1, bad1', rfl, -, -⟩ := qof_form hq1
        have HQa := hide hq1
        unfold qv
        obtain ⟨fa1, hfa1⟩ : ∃ fa1, fa1 = sa.fe := ⟨_, rfl⟩
        rw [← hfa1] at HQa ⊢
        have HB4 := hide hb4
        clear hq1 hb4 hfa1 HN1 c0 c1 c2 c3
        go_wp2_with (refine wpList_store_all rfl 141 _ _ rfl w4.heap.size #[.string (strN L), .int .i64 at1, .int .i64 fa1, .int .i64 bad1'] _ 141 rfl rfl (heap_last _ _) rfl (by kernel_rfl) (rd4_all _ _ _ _) ?_)
        intro w5 H5 HG5
        refine of_hid ?_
        have HB4s := hide HB4.out.size
        have hb5 := keepB (belowG (below_new w4 (.cells #[.string ByteArray.empty, .int .i64 0, .int .i64 0, .int .i64 0] 141)) HG5.out (Nat.le_refl _) (by simp)) (Nat.le_refl _) HB4.out
        have HN3 := hide (fun u : World => HN2.out u _ HQa.out)
        unfold qv at HN3
        clear HN2 HQa HG5 HB4
        obtain ⟨B2, hB2⟩ : ∃ B2, B2 = w4.heap.size := ⟨_, rfl⟩
        have HB2e := hide hB2
        have HBr5 := hide hb5
        have hB25 : w4.heap.size < w5.heap.size := heap_lt H5.out
        clear hb5 hB2
        go_wp2_with (first
          | (refine wpList_load_all rfl 141 _ rfl w4.heap.size #[.string (strN L), .int .i64 at1, .int .i64 fa1, .int .i64 bad1'] 141 (0, 0) rfl H5.out _ Tryd.underlying141 rfl (by kernel_rfl) ?_)
          | fail)
        (with_reducible refine Calls.mono (HN3.out _) ?_)
        rintro e w6 ⟨v2, rfl, hq2, hb6⟩
        obtain ⟨at2, bad2, rfl, hat2, hbad2⟩ := qof_form hq2
        unfold qv
        obtain ⟨fe2, hfe2⟩ : ∃ fe2, fe2 = sb.fe := ⟨_, rfl⟩
        rw [← hfe2] at hat2 hbad2 HE HPl ⊢
        have Hfe2 := hide hfe2
        have HAt2 := hide hat2
        have HBad2 := hide hbad2
        have H6 := hide (below_blk hb6 (heap_lt H5.out) H5.out)
        have HBr6 := hide (keepB hb6 (Nat.le_refl _) HBr5.out)
        clear hq2 hb6 hat2 hbad2 hfe2 HN3 H5 HBr5
        go_wp2_with (first
          | (refine wpList_store_all rfl 141 _ _ rfl w4.heap.size #[.string (strN L), .int .i64 at2, .int .i64 fe2, .int .i64 bad2] _ 141 rfl rfl H6.out rfl (by kernel_rfl) (rd4_all _ _ _ _) ?_)
          | fail)
        intro w7 H7 HG7
        refine of_hid ?_
        have HBr7 := hide (belowG HBr6.out HG7.out (by rw [← HB2e.out] at hB25; have := HB4s.out; omega) HBr6.out.size)
        have HQ7 := hide (below_blk HBr7.out (heap_lt HQ.out) HQ.out)
        have HO7 := hide (HO.out.below HBr7.out)
        clear H6 HG7 HBr6 HQ HO
        go_wp2_with (first
          | (refine wpList_load_all rfl 141 _ rfl w4.heap.size #[.string (strN L), .int .i64 at2, .int .i64 fe2, .int .i64 bad2] 141 (0, 0) rfl H7.out _ Tryd.underlying141 rfl (by kernel_rfl) ?_)
          | (refine wpList_store_all rfl 141 _ _ rfl B #[.string (strN L), .int .i64 at2, .int .i64 fe2, .int .i64 bad2] _ 141 rfl rfl HQ7.out rfl (by kernel_rfl) (rd4_all _ _ _ _) ?_)
          | fail)
        intro w8 H8q HG8
        refine of_hid ?_
        have HO8 := hide (HO7.out.same (fun k hk => HG8.out.block k (HO7.out.own k hk).2 (fun e => by injection e with e; have := (HO7.out.own k hk).1; omega)))
        have HB8 := hide (belowG (keepB HBr7.out (Nat.le_refl _) HBw.out) HG8.out hB (keepB HBr7.out (Nat.le_refl _) HBw.out).size)
        clear H7 HG8 HBr7 HQ7 HO7 HBw
        obtain ⟨c0, c1, c2, c3⟩ := cells4 H8q.out
        by_cases hfe : fe2 = 0
        · subst hfe
          obtain rfl : at2 = (sb.at_ : Int) := HAt2.out rfl
          have hfs : sb.fe = 0 := Hfe2.out.symm
          have hO8s : B + 1 ≤ w8.heap.size := by have := heap_lt H8q.out; omega
          have hbl : ts.length ≤ 1000000000 := by omega
          clear HAt2 HBad2
          by_cases hc0 : 0 < cn
          · have d1 : decide ((0 : Int) < (cn : Int)) = true := by simp; omega
            have d1' : decide (0 < cn) = true := by simpa using hc0
            have HP : Hid (readR L = readN L (n - (i + 1)) sb (ts ++ [⟨(q : Int), (cn : Int), []⟩])) := hide (by
              have h0 : rtE s L = 0 := by rw [HE.out, if_neg (by simp), if_pos hc0]
              rw [HStep.out, if_neg (by rw [h0]; simp), HTk.out, HSt.out, if_pos hc0, if_pos hc0])
            have hnw := below_new w8 (.cells #[.int .i64 (q : Int), .int .i64 (cn : Int), .string ⟨#[]⟩] 131)
            have HO9 := hide (HO8.out.below hnw)
            have hBn := hide (keepB hnw (Nat.le_refl _) HB8.out)
            have hQn := hide (below_blk hnw (heap_lt H8q.out) H8q.out)
            have hN9 := Nat.le_trans hO8s hnw.size
            clear HStep HE HPl HTk HSt hnw HO8 HB8 H8q hc0
            go_wp2_with (refine wpList_append_rt rfl _ _ rfl v (B + 1) ts w8.heap.size ⟨(q : Int), (cn : Int), []⟩ 131 (0, 0) 1 rfl rfl HO9.out hN9 (heap_last _ _) hbl ?_)
            intro v' w9 HO10 HG10
            refine of_hid ?_
            have HB10 := hide (hBn.out.grown HG10.out hBn.out.size (fun k hk => by have := (HO9.out.own k hk).1; omega))
            have HQ10 := hide ((HG10.out.block B (heap_lt hQn.out) (fun e => by have := (HO9.out.own B e.symm).1; omega)).trans hQn.out)
            clear HO9 hBn hQn HG10 hN9 c0 c1 c2 c3
            go_wp2
            go_roundw
            case rel => exact ⟨i + 1, _, rfl, by go_num, by omega, sb, ts ++ [⟨(q : Int), (cn : Int), []⟩], bad2, HP.out, by simp [hln], ha2, hfs, HO10.out, HQ10.out, HB10.out⟩
            case measure => simp [intOf]; omega
          · obtain rfl : cn = 0 := by omega
            by_cases hq0 : q = 0
            · subst hq0
              have HP : Hid (readR L = .bad 80 (s.at_ : Int)) := hide (by
                have h0 : rtE s L = 80 := by rw [HE.out, if_neg (by simp), if_neg (by omega), if_pos rfl]
                have h1 : rtP s L = (s.at_ : Int) := by rw [HPl.out, if_neg (by simp), if_pos rfl]
                rw [HStep.out, if_pos (by rw [h0]; decide), h0, h1])
              clear HStep HE HPl HTk HSt HO8
              go_wp2
              go_ret3
              exact ⟨_, _, _, rfl, HB8.out, .inr ⟨HP.out, by decide, rfl⟩⟩
            · have d2 : ((q : Int) == 0) = false := by simpa using hq0
              have d2' : (q == 0) = false := by simpa using hq0
              have hsz : (strN L).size = L.length := strN_size L
              have hwm : IntKind.i64.wrap ((L.length : Int) - (sb.at_ : Int)) = (L.length : Int) - (sb.at_ : Int) := IntWalk.i64_in _ (by omega)
              by_cases hfit : L.length < sb.at_ + q
              · have d3 : decide ((L.length : Int) - (sb.at_ : Int) < (q : Int)) = true := by simp; omega
                have HP : Hid (readR L = .bad 30 (L.length : Int)) := hide (by
                  have h0 : rtE s L = 30 := by rw [HE.out, if_neg (by simp), if_neg (by omega), if_neg hq0, if_pos hfit]
                  have h1 : rtP s L = (L.length : Int) := by rw [HPl.out, if_neg (by simp), if_neg hq0]
                  rw [HStep.out, if_pos (by rw [h0]; decide), h0, h1])
                clear HStep HE HPl HTk HSt HO8
                go_wp2
                go_ret3
                exact ⟨_, _, _, rfl, HB8.out, .inr ⟨HP.out, by decide, rfl⟩⟩
              · have d3 : decide ((L.length : Int) - (sb.at_ : Int) < (q : Int)) = false := by simp; omega
                have HP : Hid (readR L = readN L (n - (i + 1)) ⟨sb.at_ + q, sb.fa, sb.fe⟩ (ts ++ [⟨0, 0, (L.drop sb.at_).take q⟩])) := hide (by
                  have h0 : rtE s L = 0 := by rw [HE.out, if_neg (by simp), if_neg (by omega), if_neg hq0, if_neg hfit]
                  rw [HStep.out, if_neg (by rw [h0]; simp), HTk.out, HSt.out, if_neg (by omega), if_neg (by omega)])
                have hsl := slice_str L sb.at_ q (by omega)
                have hwa : IntKind.i64.wrap ((sb.at_ : Int) + (q : Int)) = (sb.at_ : Int) + (q : Int) := IntWalk.i64_in _ (by omega)
                obtain ⟨D, hD⟩ : ∃ D, D = (L.drop sb.at_).take q := ⟨_, rfl⟩
                rw [← hD] at HP hsl
                have hnw := below_new w8 (.cells #[.int .i64 0, .int .i64 0, .string (strN D)] 131)
                have HO9 := hide (HO8.out.below hnw)
                have hBn := hide (keepB hnw (Nat.le_refl _) HB8.out)
                have hQn := hide (below_blk hnw (heap_lt H8q.out) H8q.out)
                have hN9 := Nat.le_trans hO8s hnw.size
                clear HStep HE HPl HTk HSt hnw HO8 HB8 H8q hD
                go_wp2_with (refine wpList_append_rt rfl _ _ rfl v (B + 1) ts w8.heap.size ⟨0, 0, D⟩ 131 (0, 0) 1 rfl rfl HO9.out hN9 (heap_last _ _) hbl ?_)
                intro v' w9 HO10 HG10
                refine of_hid ?_
                have HB10 := hide (hBn.out.grown HG10.out hBn.out.size (fun k hk => by have := (HO9.out.own k hk).1; omega))
                have HQ10 := hide ((HG10.out.block B (heap_lt hQn.out) (fun e => by have := (HO9.out.own B e.symm).1; omega)).trans hQn.out)
                clear HO9 hBn hQn HG10 hN9 c0 c1 c2 c3 hsl
                obtain ⟨c0, c1, c2, c3⟩ := cells4 HQ10.out
                have f1 : w9.frozen? ⟨B, 1, none⟩ = false := blk_free HQ10.out
                have hgs := grown_setCell (World.grownBy.refl w9 (some B)) 1 (.int .i64 ((sb.at_ : Int) + (q : Int)))
                have HO11 := hide (HO10.out.same (fun k hk => hgs.block k (HO10.out.own k hk).2 (fun e => by injection e with e; have := (HO10.out.own k hk).1; omega)))
                have HB11 := hide (belowG HB10.out hgs hB HB10.out.size)
                have HQ11 : Hid ((w9.setCell ⟨B, 1, none⟩ (.int .i64 ((sb.at_ : Int) + (q : Int)))).heap[B]? = some (.cells #[.string (strN L), .int .i64 (((sb.at_ + q : Nat) : Int)), .int .i64 0, .int .i64 bad2] 141 (0, 0))) := hide (by
                  rw [blk_set HQ10.out]
                  rfl)
                clear HQ10 HO10 HB10 hgs
                go_wp2
                go_roundw
                case rel => exact ⟨i + 1, _, rfl, by go_num, by omega, ⟨sb.at_ + q, sb.fa, sb.fe⟩, ts ++ [⟨0, 0, D⟩], bad2, HP.out, by simp [hln], by simp only; omega, hfs, HO11.out, HQ11.out, HB11.out⟩
                case measure => simp [intOf]; omega
        · have HP : Hid (readR L = .bad fe2 bad2 ∧ fe2 ≠ 0) := hide ⟨by
              have h0 : rtE s L = fe2 := by rw [HE.out, if_pos hfe]
              have h1 : rtP s L = bad2 := by rw [HPl.out, if_pos hfe, HBad2.out hfe]
              rw [HStep.out, if_pos (by rw [h0]; exact hfe), h0, h1], hfe⟩
          have q1 : (fe2 != 0) = true := by simpa using hfe
          clear HStep HE HPl HTk HSt HAt2 HBad2 hfe HO8
          go_wp2_with fail
          refine wp_region_keep (fun u => u.heap[B]? = some (.cells #[.string (strN L), .int .i64 at2, .int .i64 fe2, .int .i64 bad2] 141 (0, 0)) ∧ Below w.heap.size w u) (by kernel_rfl) (by kernel_rfl) ⟨H8q.out, HB8.out.drew⟩ ?_
          repeat (first
            | (refine keep_step (v := ?_) (by rfl) (fun u K hS hK => ?_) ?_
               rotate_left
               · obtain ⟨c0, c1, c2, c3⟩ := cells4 hS.1
                 (go_simp; with_reducible exact hK _ hS)
               simp only [Act.put, List.setIfInBounds_toArray, List.set_cons_zero, List.set_cons_succ]))
          refine keep_nil (fun w9 hS9 => ?_)
          have HB9 := hide hS9.2
          clear hS9 c0 c1 c2 c3 H8q HB8
          go_wp2
          go_ret3
          exact ⟨_, _, _, rfl, HB9.out, .inr ⟨HP.out.1, HP.out.2, rfl⟩⟩
      · obtain rfl : i = n := by omega
        have e1 : decide ((i : Int) < (i : Int)) = false := by simp
        have e1' : decide (i < i) = false := by simp
        have HRe : Hid (readR L = if (s.fin L.length).fe ≠ 0 then .bad (s.fin L.length).fe (s.fin L.length).fa else .ok ts) := hide (by rw [HRd.out, Nat.sub_self, readN])
        have HEn := hide (fun u : World => end_q L s (qv L (s.at_ : Int) 0 bad) u (by omega) hat ⟨(s.at_ : Int), bad, by rw [Hfe0.out], fun _ => rfl, fun h => absurd Hfe0.out h⟩)
        unfold qv at HEn
        obtain ⟨sf, hsf⟩ : ∃ sf, sf = s.fin L.length := ⟨_, rfl⟩
        rw [← hsf] at HRe HEn
        clear HRd hi hsf
        go_wp2_with (first
          | (refine wpList_load_all rfl 141 _ rfl B #[.string (strN L), .int .i64 (s.at_ : Int), .int .i64 0, .int .i64 bad] 141 (0, 0) rfl HQ.out _ Tryd.underlying141 rfl (by kernel_rfl) ?_)
          | fail)
        (with_reducible refine Calls.mono (HEn.out _) ?_)
        rintro e w4 ⟨v1, rfl, hq1, hb4⟩
        obtain ⟨at2, bad2, rfl, -, hbad2⟩ := qof_form hq1
        unfold qv
        obtain ⟨fe2, hfe2⟩ : ∃ fe2, fe2 = sf.fe := ⟨_, rfl⟩
        rw [← hfe2] at hbad2 HRe ⊢
        have HBad2 := hide hbad2
        have HQ4 := hide (below_blk hb4 (heap_lt HQ.out) HQ.out)
        have HO4 := hide (HO.out.below hb4)
        have HB4 := hide (keepB hb4 (Nat.le_refl _) HBw.out)
        clear hq1 hb4 hbad2 hfe2 HEn c0 c1 c2 c3 HQ HO HBw
        go_wp2_with (first
          | (refine wpList_store_all rfl 141 _ _ rfl B #[.string (strN L), .int .i64 at2, .int .i64 fe2, .int .i64 bad2] _ 141 rfl rfl HQ4.out rfl (by kernel_rfl) (rd4_all _ _ _ _) ?_)
          | fail)
        intro w8 H8q HG8
        refine of_hid ?_
        have HO8 := hide (HO4.out.same (fun k hk => HG8.out.block k (HO4.out.own k hk).2 (fun e => by injection e with e; have := (HO4.out.own k hk).1; omega)))
        have HB8 := hide (belowG HB4.out HG8.out hB HB4.out.size)
        clear HG8 HQ4 HO4 HB4
        obtain ⟨c0, c1, c2, c3⟩ := cells4 H8q.out
        by_cases hfe : fe2 = 0
        · subst hfe
          have HP : Hid (readR L = .ok ts) := hide (by rw [HRe.out, if_neg (by simp)])
          clear HRe HBad2
          go_wp2
          go_ret3
          exact ⟨_, _, _, rfl, HB8.out, .inl ⟨ts, HP.out, Go.Proofs.YtkinpbhbgeiflaaDoor.Dl.row_down HO8.out (by omega), rfl, rfl, by omega⟩⟩
        · have HP : Hid (readR L = .bad fe2 bad2 ∧ fe2 ≠ 0) := hide ⟨by rw [HRe.out, if_pos hfe, HBad2.out hfe], hfe⟩
          have q1 : (fe2 != 0) = true := by simpa using hfe
          clear HRe HBad2 hfe HO8
          go_wp2_with fail
          refine wp_region_keep (fun u => u.heap[B]? = some (.cells #[.string (strN L), .int .i64 at2, .int .i64 fe2, .int .i64 bad2] 141 (0, 0)) ∧ Below w.heap.size w u) (by kernel_rfl) (by kernel_rfl) ⟨H8q.out, HB8.out.drew⟩ ?_
          repeat (first
            | (refine keep_step (v := ?_) (by rfl) (fun u K hS hK => ?_) ?_
               rotate_left
               · obtain ⟨c0, c1, c2, c3⟩ := cells4 hS.1
                 (go_simp; with_reducible exact hK _ hS)
               simp only [Act.put, List.setIfInBounds_toArray, List.set_cons_zero, List.set_cons_succ]))
          refine keep_nil (fun w9 hS9 => ?_)
          have HB9 := hide hS9.2
          clear hS9 c0 c1 c2 c3 H8q HB8
          go_wp2
          go_ret3
          exact ⟨_, _, _, rfl, HB9.out, .inr ⟨HP.out.1, HP.out.2, rfl⟩⟩
  · have HP : Hid (readR L = .bad fe1 bad1 ∧ fe1 ≠ 0) := hide ⟨by rw [HRd.out, if_pos hfe, HD1.out hfe], hfe⟩
    have q1 : (fe1 != 0) = true := by simpa using hfe
    clear HRd HA1 HD1 hfe
    go_wp2_with fail
    refine wp_region_keep (fun u => u.heap[B]? = some (.cells #[.string (strN L), .int .i64 at1, .int .i64 fe1, .int .i64 bad1] 141 (0, 0)) ∧ Below w.heap.size w u) (by kernel_rfl) (by kernel_rfl) ⟨H2.out, HB2.out.drew⟩ ?_
    repeat (first
      | (refine keep_step (v := ?_) (by rfl) (fun u K hS hK => ?_) ?_
         rotate_left
         · obtain ⟨c0, c1, c2, c3⟩ := cells4 hS.1
           (go_simp; with_reducible exact hK _ hS)
         simp only [Act.put, List.setIfInBounds_toArray, List.set_cons_zero, List.set_cons_succ]))
    refine keep_nil (fun w6 hS6 => ?_)
    have HB6 := hide hS6.2
    clear hS6 c0 c1 c2 c3 H2 HB2
    go_wp2
    go_ret3
    exact ⟨_, _, _, rfl, HB6.out, .inr ⟨HP.out.1, HP.out.2, rfl⟩⟩
end Go.Proofs.YtkinpbhbgeiflaaDoor.Eb
