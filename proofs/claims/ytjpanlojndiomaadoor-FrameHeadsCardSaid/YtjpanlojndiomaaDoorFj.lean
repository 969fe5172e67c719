/- The reference's Read (layer 4). -/
import Derived.Test.YtjpanlojndiomaaDoorFi
import Derived.Test.YtjpanlojndiomaaDoorFp
import Derived.Test.YtjpanlojndiomaaDoorRq
import Derived.Test.YtjpanlojndiomaaDoorRg
import Derived.Test.YtjpanlojndiomaaDoorRx
namespace Go.Proofs.YtjpanlojndiomaaDoor.Fj
set_option linter.unusedVariables false
set_option linter.unusedSimpArgs false
set_option maxRecDepth 100000
open Go.ChangeShapes Go.WideShapes Go.ChangeAt Go.RowKit
open Go.Proofs.YtjpanlojndiomaaDoor.Wu Go.Proofs.YtjpanlojndiomaaDoor.Sm Go.Proofs.YtjpanlojndiomaaDoor.Sh Go.Proofs.YtjpanlojndiomaaDoor.Ba Go.Proofs.YtjpanlojndiomaaDoor.Bp Go.Proofs.YtjpanlojndiomaaDoor.Bs Go.Proofs.YtjpanlojndiomaaDoor.Cr Go.Proofs.YtjpanlojndiomaaDoor.Cv Go.Proofs.YtjpanlojndiomaaDoor.Cw Go.Proofs.YtjpanlojndiomaaDoor.Cz Go.Proofs.YtjpanlojndiomaaDoor.Ra Go.Proofs.YtjpanlojndiomaaDoor.Rb Go.Proofs.YtjpanlojndiomaaDoor.Rq Go.Proofs.YtjpanlojndiomaaDoor.Fp Go.Proofs.YtjpanlojndiomaaDoor.Fh Go.Proofs.YtjpanlojndiomaaDoor.Fi
attribute [local go_sem] Rk.kUpon_value Rk.kUpon_skip Rk.kUpon_enter
/-- The result's variable, the reader's. -/
structure Rr (w : World) (x y z : Value) (N : Nat) (L : List Nat) (at_ code bad : Int) (u : World) : Prop where
  f : u.heap[w.heap.size]? = some (.cells #[x, y, z] 31 (0, 0))
  q : u.heap[N]? = some (.cells #[.string (strN L), .int .i64 at_, .int .i64 code, .int .i64 bad] 87 (0, 0))
  b : Below w.heap.size w u
theorem Rr.cells {w u : World} {x y z : Value} {N : Nat} {L : List Nat} {at_ code bad : Int} (h : Rr w x y z N L at_ code bad u) :
    u.cell? ⟨w.heap.size, 0, none⟩ = some x ∧ u.cell? ⟨w.heap.size, 1, none⟩ = some y ∧ u.cell? ⟨w.heap.size, 2, none⟩ = some z ∧ u.frozen? ⟨w.heap.size, 0, none⟩ = false ∧ u.frozen? ⟨w.heap.size, 1, none⟩ = false ∧ u.frozen? ⟨w.heap.size, 2, none⟩ = false := blk3 h.f
theorem Rr.set {w u : World} {x y z : Value} {N : Nat} {L : List Nat} {at_ code bad : Int} (h : Rr w x y z N L at_ code bad u) (hN : N ≠ w.heap.size) (a b c : Value) : Rr w a b c N L at_ code bad (((u.setCell ⟨w.heap.size, 0, none⟩ a).setCell ⟨w.heap.size, 1, none⟩ b).setCell ⟨w.heap.size, 2, none⟩ c) :=
  ⟨blk3_set h.f a b c, blk_set_other (blk_set_other (blk_set_other h.q hN _) hN _) hN _, below_set3 h.b (Nat.le_refl _) a b c⟩
theorem Rr.drew {w u : World} {x y z : Value} {N : Nat} {L : List Nat} {at_ code bad : Int} (h : Rr w x y z N L at_ code bad u) : Rr w x y z N L at_ code bad u.drew := ⟨h.f, h.q, h.b.drew⟩
/-- Where the walk through the last statement is. -/
def stageR (w : World) (x y z : Value) (N : Nat) (L : List Nat) (at_ code bad : Int) (u : World) : List Value → Prop
  | [] => Rr w (.int .i64 0) (.int .i64 0) (.string ⟨#[]⟩) N L at_ code bad u
  | _ => Rr w x y z N L at_ code bad u
def TR (w : World) (x y z : Value) (N : Nat) (L : List Nat) (at_ code bad : Int) (h : List Value) (u : World) : Prop := stageR w x y z N L at_ code bad u h
theorem TR.any {w u : World} {x y z : Value} {N : Nat} {L : List Nat} {at_ code bad : Int} {h : List Value} (t : TR w x y z N L at_ code bad h u) : u.heap[N]? = some (.cells #[.string (strN L), .int .i64 at_, .int .i64 code, .int .i64 bad] 87 (0, 0)) := by
  cases h with
  | nil => exact Rr.q t
  | cons _ _ => exact Rr.q t
/-- What the reference answers. -/
def refV (L : List Nat) : HR → Value
  | .bad code place => .tuple #[.agg #[.int .i64 0, .int .i64 0, .string ⟨#[]⟩], .int .i64 0, .int .i64 code, .int .i64 place]
  | .ok k s h n => .tuple #[.agg #[.int .i64 (k : Int), .int .i64 (s : Int), .string (strN ((L.drop h).take n))], .int .i64 ((h + n : Nat) : Int), .int .i64 0, .int .i64 0]
theorem fin3r {w w5 : World} {x y z : Value} (hF : w5.heap[w.heap.size]? = some (.cells #[x, y, z] 31 (0, 0))) (hb : Below w.heap.size w w5) (a b c : Value) :
    Sem.run Tryd.prog (loadVar 31 ⟨w.heap.size, 0, none⟩) (((w5.setCell ⟨w.heap.size, 0, none⟩ a).setCell ⟨w.heap.size, 1, none⟩ b).setCell ⟨w.heap.size, 2, none⟩ c) = .ok (.agg #[a, b, c]) (((w5.setCell ⟨w.heap.size, 0, none⟩ a).setCell ⟨w.heap.size, 1, none⟩ b).setCell ⟨w.heap.size, 2, none⟩ c) ∧
    Below w.heap.size w (((w5.setCell ⟨w.heap.size, 0, none⟩ a).setCell ⟨w.heap.size, 1, none⟩ b).setCell ⟨w.heap.size, 2, none⟩ c) :=
  ⟨load_plain (Fc.set_frame hF a b c), below_set3 hb (Nat.le_refl _) a b c⟩
theorem str_empty (L : List Nat) : (strN L).toList.isEmpty = decide (L = []) := by
  rw [ByteArray.toList_eq]
  cases L with
  | nil => rfl
  | cons x X => simp [strN, strOfNums]
set_option maxHeartbeats 1600000 in
theorem refRead_c (L : List Nat) (w : World) (h8 : All8 L) (hm : L.length ≤ 281474976710656) :
    Calls Tryd.prog 15 #[.string (strN L)] w fun e w' => e = .returned (refV L (readR L)) ∧ Below w.heap.size w w' := by
  have hsz := strN_size L
  have hsn := str_empty L
  have HF0 := hide (heap_last w (.cells #[.int .i64 0, .int .i64 0, .string ⟨#[]⟩] 31))
  have HB0 := hide (below_new w (.cells #[.int .i64 0, .int .i64 0, .string ⟨#[]⟩] 31))
  rcases Nat.eq_zero_or_pos L.length with hl0 | hl0
  · have hLn : L = [] := List.length_eq_zero_iff.1 hl0
    have HR : Hid (readR L = .bad 30 0) := by subst hLn; rfl
    have hq : (strN L).toList.isEmpty = true := by rw [hsn, hLn]; rfl
    clear hsn hLn hl0 hsz
    rw [HR.out]
    go_enter Tryd.func15, Tryd.ntmps15
    go_wp2
    have HL := load_plain (heap_last w (.cells #[.int .i64 0, .int .i64 0, .string ⟨#[]⟩] 31))
    refine bodyPost_ret (v := refV L (.bad 30 0)) ?_ rfl ⟨rfl, HB0.out⟩
    simp [results, Tryd.results15, asAddr, HL, refV]
  · have hq : (strN L).toList.isEmpty = false := by
      rw [hsn]
      apply decide_eq_false
      intro h
      rw [h] at hl0
      simp at hl0
    have hx := strN_at h8 0 (by rw [hsz]; exact hl0)
    have hx8 := all8_getD h8 0
    have hb1 : s0.has L.length 1 = s0 := by unfold Rs.has; rw [if_neg (by show ¬ (_ ∧ L.length < 0 + 1); omega)]
    have hb2 : s0.byte L = ⟨1, 0, 0⟩ := by unfold Rs.byte; rw [hb1, if_pos (show s0.fe = 0 from rfl)]; rfl
    have hb3 : s0.byteV L = L.getD 0 0 := by unfold Rs.byteV; rw [hb1, if_pos (show s0.fe = 0 from rfl)]; rfl
    have HN := hide (fun u => num_q L ⟨1, 0, 0⟩ (qv L 1 0 0) u h8 hm (by simp only; omega) ⟨1, 0, rfl, fun _ => rfl, fun h => by simp at h⟩)
    have hna := Rs.num_at ⟨1, 0, 0⟩ L (by simp only; omega)
    have hnm := Rs.numV_max ⟨1, 0, 0⟩ L
    have HRd : Hid (readR L = if L.getD 0 0 < 8 then .bad 40 0 else if (Rs.num ⟨1, 0, 0⟩ L).fe ≠ 0 then .bad (Rs.num ⟨1, 0, 0⟩ L).fe (Rs.num ⟨1, 0, 0⟩ L).fa else if 16384 < Rs.numV ⟨1, 0, 0⟩ L then .bad 2 1 else if L.length < (Rs.num ⟨1, 0, 0⟩ L).at_ + Rs.numV ⟨1, 0, 0⟩ L then .bad 30 (L.length : Int) else .ok (L.getD 0 0 / 8) (L.getD 0 0 % 8) (Rs.num ⟨1, 0, 0⟩ L).at_ (Rs.numV ⟨1, 0, 0⟩ L)) := by
      show _ = _
      unfold readR headR
      rw [hb2, hb3]
      by_cases c1 : L.getD 0 0 < 8
      · rw [if_pos ⟨hl0, c1⟩, if_pos c1]
      · rw [if_neg (fun h => c1 h.2), if_neg c1]
        by_cases c2 : (Rs.num ⟨1, 0, 0⟩ L).fe ≠ 0
        · rw [if_pos c2, if_pos c2]
        · rw [if_neg c2, if_neg c2]
          by_cases c3 : 16384 < Rs.numV ⟨1, 0, 0⟩ L
          · rw [if_pos c3, if_pos c3]
          · rw [if_neg c3, if_neg c3]
    clear hsn hb1 hb2 hb3
    generalize L.getD 0 0 = x at *
    have hxw : wrap64 ((((strN L)[0]'(by rw [hsz]; exact hl0)).toNat : Nat) : Int) = (x : Int) := by rw [hx]; exact IntWalk.wrap64_in _ (by omega)
    have hl1 : 0 < (strN L).size := by rw [hsz]; exact hl0
    have Hxw := hide hxw
    clear hxw hx
    go_enter Tryd.func15, Tryd.ntmps15
    go_upto_if 16 with (fail)
    rw [Hxw.out]
    generalize w.alloc (.cells #[.int .i64 0, .int .i64 0, .string ⟨#[]⟩] 31) = w1 at *
    by_cases c1 : x < 8
    · have d1 : decide ((x : Int) < 8) = true := by simp; omega
      have d1' : decide (x < 8) = true := by simp; omega
      have hR := HRd.out
      rw [if_pos c1] at hR
      have HR := hide hR
      clear hR HRd
      have f0 : w1.cell? ⟨w.heap.size, 0, none⟩ = some (.int .i64 0) := blk_cell HF0.out rfl
      have f1 : w1.cell? ⟨w.heap.size, 1, none⟩ = some (.int .i64 0) := blk_cell HF0.out rfl
      have f2 : w1.cell? ⟨w.heap.size, 2, none⟩ = some (.string ⟨#[]⟩) := blk_cell HF0.out rfl
      have z0 : w1.frozen? ⟨w.heap.size, 0, none⟩ = false := blk_free HF0.out
      have z1 : w1.frozen? ⟨w.heap.size, 1, none⟩ = false := blk_free HF0.out
      have z2 : w1.frozen? ⟨w.heap.size, 2, none⟩ = false := blk_free HF0.out
      go_wp2
      have HL := fin3r HF0.out HB0.out (.int .i64 0) (.int .i64 0) (.string ⟨#[]⟩)
      rw [HR.out]
      refine bodyPost_ret (v := refV L (.bad 40 0)) ?_ rfl ⟨rfl, HL.2⟩
      simp [results, Tryd.results15, asAddr, HL.1, refV]
    · have d1 : decide ((x : Int) < 8) = false := by simp; omega
      have d1' : decide (x < 8) = false := by simp; omega
      have hR := HRd.out
      rw [if_neg c1] at hR
      have HR0 := hide hR
      clear hR HRd
      go_wp2_with fail
      refine (HN.out w1).mono ?_
      rintro e w2 ⟨v2, rfl, ⟨at2, bad2, rfl, p0, p1⟩, hb2⟩
      have HF2 := hide (below_blk hb2 (heap_lt HF0.out) HF0.out)
      have HB2 := hide (keepB hb2 (Nat.le_refl _) HB0.out)
      have hz2 : w.heap.size < w2.heap.size := heap_lt HF2.out
      have P0 := hide p0
      have P1 := hide p1
      clear hb2 HF0 HB0 p0 p1 HN
      obtain ⟨n, hn⟩ : ∃ n, n = Rs.numV ⟨1, 0, 0⟩ L := ⟨_, rfl⟩
      rw [← hn] at hnm HR0 ⊢
      obtain ⟨s2, hs2⟩ : ∃ s2, s2 = Rs.num ⟨1, 0, 0⟩ L := ⟨_, rfl⟩
      rw [← hs2] at hna HR0 P0 P1 ⊢
      clear hn hs2
      have HF3 := hide (heap_old HF2.out (.cells #[.string (strN L), .int .i64 at2, .int .i64 s2.fe, .int .i64 bad2] 87))
      have HQ3 := hide (heap_last w2 (.cells #[.string (strN L), .int .i64 at2, .int .i64 s2.fe, .int .i64 bad2] 87))
      have HB3 := hide (keepB (below_new w2 (.cells #[.string (strN L), .int .i64 at2, .int .i64 s2.fe, .int .i64 bad2] 87)) (Nat.le_refl _) HB2.out)
      go_upto_if 26 with (fail)
      generalize w2.alloc (.cells #[.string (strN L), .int .i64 at2, .int .i64 s2.fe, .int .i64 bad2] 87) = w3 at *
      generalize w2.heap.size = N at *
      clear HF2 HB2
      have f0 : w3.cell? ⟨w.heap.size, 0, none⟩ = some (.int .i64 0) := blk_cell HF3.out rfl
      have f1 : w3.cell? ⟨w.heap.size, 1, none⟩ = some (.int .i64 0) := blk_cell HF3.out rfl
      have f2 : w3.cell? ⟨w.heap.size, 2, none⟩ = some (.string ⟨#[]⟩) := blk_cell HF3.out rfl
      have z0 : w3.frozen? ⟨w.heap.size, 0, none⟩ = false := blk_free HF3.out
      have z1 : w3.frozen? ⟨w.heap.size, 1, none⟩ = false := blk_free HF3.out
      have z2 : w3.frozen? ⟨w.heap.size, 2, none⟩ = false := blk_free HF3.out
      obtain ⟨r0, r1, r2, r3, g0, g1, g2, g3⟩ := blk4 HQ3.out
      obtain ⟨p2, fa2, fe2⟩ := s2
      simp only at hna HR0 P0 P1 r2 ⊢
      by_cases c2 : fe2 = 0
      · have e2 := P0.out c2
        subst c2
        subst e2
        have hR := HR0.out
        rw [if_neg (by simp)] at hR
        have HR1 := hide hR
        clear hR HR0
        by_cases c3 : 16384 < n
        · have d2 : decide ((16384 : Int) < (n : Int)) = true := by simp; omega
          have d2' : decide (16384 < n) = true := by simp; omega
          have hR := HR1.out
          rw [if_pos c3] at hR
          have HR := hide hR
          clear hR HR1
          go_wp2
          have HL := fin3r HF3.out HB3.out (.int .i64 0) (.int .i64 0) (.string ⟨#[]⟩)
          rw [HR.out]
          refine bodyPost_ret (v := refV L (.bad 2 1)) ?_ rfl ⟨rfl, HL.2⟩
          simp [results, Tryd.results15, asAddr, HL.1, refV]
        · have d2 : decide ((16384 : Int) < (n : Int)) = false := by simp; omega
          have d2' : decide (16384 < n) = false := by simp; omega
          have hR := HR1.out
          rw [if_neg c3] at hR
          have HR2 := hide hR
          clear hR HR1
          by_cases c4 : L.length < p2 + n
          · have d3 : decide ((L.length : Int) - (p2 : Int) < (n : Int)) = true := by simp; omega
            have hR := HR2.out
            rw [if_pos c4] at hR
            have HR := hide hR
            clear hR HR2
            go_wp2
            have HL := fin3r HF3.out HB3.out (.int .i64 0) (.int .i64 0) (.string ⟨#[]⟩)
            rw [HR.out]
            refine bodyPost_ret (v := refV L (.bad 30 (L.length : Int))) ?_ rfl ⟨rfl, HL.2⟩
            simp [results, Tryd.results15, asAddr, HL.1, refV]
          · have d3 : decide ((L.length : Int) - (p2 : Int) < (n : Int)) = false := by simp; omega
            have hR := HR2.out
            rw [if_neg c4] at hR
            have HR := hide hR
            clear hR HR2
            have hsl := slice_str L p2 n (by omega)
            obtain ⟨D, hD⟩ : ∃ D, D = (L.drop p2).take n := ⟨_, rfl⟩
            rw [← hD] at hsl
            have HDe := hide hD
            clear hD
            have HX0 : Hid (TR w (.int .i64 ((x : Int) / 8)) (.int .i64 ((x : Int) % 8)) (.string (strN D)) N L (p2 : Int) 0 bad2 [] w3.drew) := hide (Rr.drew ⟨HF3.out, HQ3.out, HB3.out⟩)
            have mixed : Tryd.prog.follows Departure.mixedOrders = true := by kernel_rfl
            go_wp2_with fail
            clear f0 f1 f2 z0 z1 z2 r0 r1 r2 r3 g0 g1 g2 g3
            have hw1 : IntKind.i64.wrap ((p2 : Int) + (n : Int)) = (p2 : Int) + (n : Int) := IntWalk.i64_in _ (by omega)
            have hw2 : IntKind.i64.wrap ((x : Int) / 8) = (x : Int) / 8 := IntWalk.i64_in _ (by omega)
            have hw3 : (x : Int).tmod 8 = (x : Int) % 8 := Int.tmod_eq_emod_of_nonneg (by omega)
            refine Rg.wp_region_g (TR w (.int .i64 ((x : Int) / 8)) (.int .i64 ((x : Int) % 8)) (.string (strN D)) N L (p2 : Int) 0 bad2) [some (some ?_), some (some ?_), some (some ?_), some (some ?_), some (some ?_), some (some ?_), some (some ?_), some (some ?_), some (some ?_), some (some ?_), some (some ?_), some (some ?_), some (some ?_), some (some ?_), some (some ?_), some (some ?_), some (some ?_), none, some (some ?_), some (some ?_), some (some ?_)] mixed (by kernel_rfl) [17] [17] rfl rfl (by kernel_rfl) HX0.out ?_
            rotate_left 20
            iterate 17 (
              refine Rg.gF_step (by rfl) (fun h u K hT hK => ?_) ?_
              · obtain ⟨r0, r1, r2, r3, g0, g1, g2, g3⟩ := blk4 hT.any
                go_simp
                exact hK _ hT
              simp only [Act.put, List.setIfInBounds_toArray, List.set_cons_zero, List.set_cons_succ])
            refine Rg.gE_step (v := undef) (by rfl) (fun u K hT hK => ?_) ?_
            · have hr : Rr w (.int .i64 0) (.int .i64 0) (.string ⟨#[]⟩) N L (p2 : Int) 0 bad2 u := hT
              obtain ⟨f0, f1, f2, z0, z1, z2⟩ := hr.cells
              go_simp
              exact hK _ (hr.set (by omega) _ _ _)
            simp only [Act.put, List.setIfInBounds_toArray, List.set_cons_zero, List.set_cons_succ]
            iterate 3 (
              refine Rg.gF_step (by rfl) (fun h u K hT hK => ?_) ?_
              · go_simp
                exact hK _ hT
              simp only [Act.put, List.setIfInBounds_toArray, List.set_cons_zero, List.set_cons_succ])
            refine Rg.g_nil (fun w4 hT => ?_)
            have H4 : Rr w (.int .i64 ((x : Int) / 8)) (.int .i64 ((x : Int) % 8)) (.string (strN D)) N L (p2 : Int) 0 bad2 w4 := hT
            have HR4 := hide H4
            clear hT H4 HX0
            go_wp2
            rw [HR.out]
            refine bodyPost_ret (v := .tuple #[.agg #[.int .i64 ((x : Int) / 8), .int .i64 ((x : Int) % 8), .string (strN D)], .int .i64 ((p2 : Int) + (n : Int)), .int .i64 0, .int .i64 0]) ?_ rfl ⟨?_, HR4.out.b⟩
            · simp [results, Tryd.results15, asAddr, load_plain HR4.out.f]
            · rw [HDe.out]
              rfl
      · have e2 := P1.out c2
        subst e2
        have hz : (fe2 != 0) = true := bne0 c2
        have hR := HR0.out
        rw [if_pos c2] at hR
        have HR := hide hR
        clear hR HR0
        have HX0 : Hid (Rr w (.int .i64 0) (.int .i64 0) (.string ⟨#[]⟩) N L at2 fe2 bad2 w3.drew) := hide (Rr.drew ⟨HF3.out, HQ3.out, HB3.out⟩)
        have mixed : Tryd.prog.follows Departure.mixedOrders = true := by kernel_rfl
        go_wp2_with fail
        clear f0 f1 f2 z0 z1 z2 r0 r1 r2 r3 g0 g1 g2 g3
        refine Rk.wp_region_keep (Rr w (.int .i64 0) (.int .i64 0) (.string ⟨#[]⟩) N L at2 fe2 bad2) mixed (by kernel_rfl) HX0.out ?_
        repeat (
          refine Rk.keep_step (v := ?_) (by rfl) (fun u K hS hK => ?_) ?_
          rotate_left
          · obtain ⟨f0, f1, f2, z0, z1, z2⟩ := hS.cells
            obtain ⟨r0, r1, r2, r3, g0, g1, g2, g3⟩ := blk4 hS.q
            go_simp
            first
              | exact hK _ hS
              | exact hK _ (hS.set (by omega) _ _ _)
          simp only [Act.put, List.setIfInBounds_toArray, List.set_cons_zero, List.set_cons_succ])
        refine Rk.keep_nil (fun w4 hS => ?_)
        have HR4 := hide hS
        clear hS HX0
        go_wp2
        rw [HR.out]
        refine bodyPost_ret (v := refV L (.bad fe2 bad2)) ?_ rfl ⟨rfl, HR4.out.b⟩
        simp [results, Tryd.results15, asAddr, load_plain HR4.out.f, refV]
end Go.Proofs.YtjpanlojndiomaaDoor.Fj
