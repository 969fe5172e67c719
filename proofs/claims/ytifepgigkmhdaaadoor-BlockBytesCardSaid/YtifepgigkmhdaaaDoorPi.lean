/- Several texts, one behind the other. -/
import Derived.Test.YtifepgigkmhdaaaDoorPh
import Derived.Test.YtifepgigkmhdaaaDoorPe
import Derived.Test.YtifepgigkmhdaaaDoorPf
/- The reference's Piece and Make (layer 6). -/
namespace Go.Proofs.YtifepgigkmhdaaaDoor.Kq
set_option linter.unusedVariables false
set_option linter.unusedSimpArgs false
set_option maxRecDepth 100000
open Go.ChangeShapes Go.WideShapes Go.ChangeAt Go.RowKit
open Go.Proofs.YtifepgigkmhdaaaDoor.Wu Go.Proofs.YtifepgigkmhdaaaDoor.Sm Go.Proofs.YtifepgigkmhdaaaDoor.Sh Go.Proofs.YtifepgigkmhdaaaDoor.Ba Go.Proofs.YtifepgigkmhdaaaDoor.Bp Go.Proofs.YtifepgigkmhdaaaDoor.Bs Go.Proofs.YtifepgigkmhdaaaDoor.Ka Go.Proofs.YtifepgigkmhdaaaDoor.Kb Go.Proofs.YtifepgigkmhdaaaDoor.Kc Go.Proofs.YtifepgigkmhdaaaDoor.Kd Go.Proofs.YtifepgigkmhdaaaDoor.Ke Go.Proofs.YtifepgigkmhdaaaDoor.Kf Go.Proofs.YtifepgigkmhdaaaDoor.Rk Go.Proofs.YtifepgigkmhdaaaDoor.Rh Go.Proofs.YtifepgigkmhdaaaDoor.Rw Go.Proofs.YtifepgigkmhdaaaDoor.Rb1 Go.Proofs.YtifepgigkmhdaaaDoor.Kg
open Go.Proofs.YtifepgigkmhdaaaDoor.Su (cutL Cnt)
attribute [local go_sem] kUpon_value kUpon_skip kUpon_enter
theorem strN_mid (L : List Nat) (i n : Nat) : (strN L).extract i (i + n) = strN ((L.drop i).take n) := by
  unfold strN strOfNums
  apply ByteArray.ext
  simp [ByteArray.data_extract, List.map_take, List.map_drop, List.extract_eq_take_drop]
theorem slice_str (L : List Nat) (i n : Nat) (h : i + n ≤ L.length) (u : World) : Sem.run Tryd.prog (Instr.slice 9 (.string (strN L)) (some (.int .i64 (i : Int))) (some (.int .i64 ((i : Int) + (n : Int)))) none) u = .ok (.string (strN ((L.drop i).take n))) u := by
  rw [run_slice_string u 9 (strN L) .i64 .i64 _ _ Tryd.underlying9 (by omega) (by omega) (by rw [strN_size]; omega)]
  rw [← strN_mid]
  congr 2
theorem slice_from (L : List Nat) (i : Nat) (h : i ≤ L.length) (u : World) : Sem.run Tryd.prog (Instr.slice 9 (.string (strN L)) (some (.int .i64 (i : Int))) none none) u = .ok (.string (strN (L.drop i))) u := by
  have e1 : (strN L).extract i (strN L).size = strN (L.drop i) := by
    have := strN_mid L i (L.length - i)
    rw [List.take_of_length_le (by rw [List.length_drop]; exact Nat.le_refl _), show i + (L.length - i) = (strN L).size by rw [strN_size]; omega] at this
    exact this
  have h1 := run_slice_string_l (P := Tryd.prog) u 9 (strN L) Tryd.underlying9 .i64 (i : Int) (by omega) (by rw [strN_size]; omega)
  rw [h1, Int.toNat_natCast, e1]
theorem refcut_b (n : Int) (k : Nat) (M : List Nat) (w : World) (hk : Cnt n k) (h8 : All8 M) (hbig : M.length ≤ 1000000) (hn : n ≤ 9223372036854775807) :
    Calls Tryd.prog 64 #[.int .i64 n, .string (strN M)] w fun e w' => e = .returned (.agg (u8s (cutL k (sha M)))) ∧ Below w.heap.size w w' := Sct.refCut_c n k M w hk h8 hbig hn
theorem refval_b (M : List Nat) (w : World) (h8 : All8 M) (hbig : M.length ≤ 4096) :
    Calls Tryd.prog 31 #[.string (strN M)] w fun e w' => e = .returned (.int .i64 ((wkN M : Nat) : Int)) ∧ w = w' := by
  have h := Wv.ref_nums (ints M) w (ints_byt h8) (by rw [ints_length]; exact hbig)
  rw [wkN_is]
  exact h
theorem load_ref {w : World} {S : Nat} {sz cut len : Int} {v : Value} (h : Sig4 56 w S sz cut len v) : Sem.run Tryd.prog (loadVar 56 ⟨S, 0, none⟩) w = .ok (sigV sz cut len v) w :=
  load_all 56 h _ Tryd.underlying56 rfl (by kernel_rfl)
end Go.Proofs.YtifepgigkmhdaaaDoor.Kq
/- The reference's Find. -/
namespace Go.Proofs.YtifepgigkmhdaaaDoor.Kt
set_option linter.unusedVariables false
set_option linter.unusedSimpArgs false
set_option maxRecDepth 100000
open Go.ChangeShapes Go.WideShapes Go.ChangeAt Go.RowKit
open Go.Proofs.YtifepgigkmhdaaaDoor.Wu Go.Proofs.YtifepgigkmhdaaaDoor.Sm Go.Proofs.YtifepgigkmhdaaaDoor.Sh Go.Proofs.YtifepgigkmhdaaaDoor.Ba Go.Proofs.YtifepgigkmhdaaaDoor.Bp Go.Proofs.YtifepgigkmhdaaaDoor.Bs Go.Proofs.YtifepgigkmhdaaaDoor.Ka Go.Proofs.YtifepgigkmhdaaaDoor.Kb Go.Proofs.YtifepgigkmhdaaaDoor.Kc Go.Proofs.YtifepgigkmhdaaaDoor.Kd Go.Proofs.YtifepgigkmhdaaaDoor.Ke Go.Proofs.YtifepgigkmhdaaaDoor.Kf Go.Proofs.YtifepgigkmhdaaaDoor.Rk Go.Proofs.YtifepgigkmhdaaaDoor.Rh Go.Proofs.YtifepgigkmhdaaaDoor.Rx Go.Proofs.YtifepgigkmhdaaaDoor.Rw Go.Proofs.YtifepgigkmhdaaaDoor.Rb1 Go.Proofs.YtifepgigkmhdaaaDoor.Kg Go.Proofs.YtifepgigkmhdaaaDoor.Kk Go.Proofs.YtifepgigkmhdaaaDoor.Kl Go.Proofs.YtifepgigkmhdaaaDoor.Ko Go.Proofs.YtifepgigkmhdaaaDoor.Kq
open Go.Proofs.YtifepgigkmhdaaaDoor.Su (cutL Cnt)
attribute [local go_sem] kUpon_value kUpon_skip kUpon_enter
theorem plcs_at (s l : Nat) (bs : List Blk) (n i : Nat) (b : Blk) (hi : i < n) (hb : bs[i]? = some b) : (plcs s l bs n)[i]? = some ⟨i, min s (l - i * s), b⟩ := by
  unfold plcs
  rw [List.getElem?_map, List.getElem?_range hi]
  simp [List.getD, hb]
theorem plcs_length (s l : Nat) (bs : List Blk) (n : Nat) : (plcs s l bs n).length = n := by simp [plcs]
/-- What the reference's Find answers. -/
def RFind (w : World) (ps : List Plc) (t : Nat) (b : Blk) (e : Ending) (w' : World) : Prop :=
  (∃ z : Int, e = .returned (.int .i64 z) ∧ ((z = -1 ∧ ps.find? (isIt t b) = none) ∨ ∃ p, z = (p.i : Int) ∧ ps.find? (isIt t b) = some p)) ∧ Below w.heap.size w w'
set_option maxHeartbeats 3200000 in
theorem reffind_c (w : World) (s k l m c : Nat) (a : Option Addr) (bs : List Blk) (L : List Nat) (hb : IsBks .i64 w (.slice a m c) bs) (hm : bs.length = m) (h8 : All8 L) (hL : L.length ≤ 4096) (hk : k ≤ 32) (hs1 : 1 ≤ s) (hs : s ≤ 4096) (hl : l ≤ 16777216) (hmb : m ≤ 4096) (hin : ∀ i, i < m → i * s ≤ l) :
    Calls Tryd.prog 32 #[sigV s k l (.slice a m c), .string (strN L)] w (RFind w (plcs s l bs m) L.length ⟨wkN L, cutL k (sha L)⟩) := by
  obtain ⟨a1, c1, g, off, hv, hmc, hcm, ha, hat⟩ := hb.at
  rw [hm] at hv hmc ha
  injection hv with h1 h2 h3
  subst h1 h3
  have Hat := hide hat
  have HM := hide hm
  have HIn := hide hin
  have hCnt : Cnt (k : Int) k := by unfold Cnt; omega
  have HV := hide (fun u : World => refval_b L u h8 hL)
  have HC := hide (fun u : World => refcut_b k k L u hCnt h8 (by omega) (by omega))
  have hYl : (cutL k (sha L)).length = 32 := Su.cutL_length k _ hk (sha_len L)
  have hsz := strN_size L
  obtain ⟨t, ht⟩ : ∃ t, t = L.length := ⟨_, rfl⟩
  obtain ⟨W, hW⟩ : ∃ W, W = wkN L := ⟨_, rfl⟩
  obtain ⟨Y, hY⟩ : ∃ Y, Y = cutL k (sha L) := ⟨_, rfl⟩
  rw [← ht] at hsz ⊢
  rw [← hW] at HV ⊢
  rw [← hY] at HC hYl ⊢
  have htb : t ≤ 4096 := by omega
  generalize strN L = X at *
  obtain ⟨ps, hps⟩ : ∃ ps, ps = plcs s l bs m := ⟨_, rfl⟩
  have HA := hide (fun (i : Nat) (b : Blk) (hi : i < m) (hb : bs[i]? = some b) => plcs_at s l bs m i b hi hb)
  have hpl := plcs_length s l bs m
  rw [← hps] at HA hpl ⊢
  have HPl := hide hpl
  clear hat h2 hb hm hin hCnt h8 hL ht hW hY hps hpl
  unfold sigV
  have HS := hide (heap_last w (.cells #[.int .i64 (s : Int), .int .i64 (k : Int), .int .i64 (l : Int), .slice a m c] 56))
  have HB := hide (below_new w (.cells #[.int .i64 (s : Int), .int .i64 (k : Int), .int .i64 (l : Int), .slice a m c] 56))
  go_enter Tryd.func32, Tryd.ntmps32
  go_wp2_with fail
  generalize (w.alloc (.cells #[.int .i64 (s : Int), .int .i64 (k : Int), .int .i64 (l : Int), .slice a m c] 56)) = w1 at *
  go_loopw [5] (fun j wr => ∃ i, j = .int .i64 ((i : Nat) : Int) ∧ i ≤ m ∧ (∀ p ∈ ps.take i, isIt t ⟨W, Y⟩ p = false) ∧ wr.heap[w.heap.size]? = some (.cells #[.int .i64 (s : Int), .int .i64 (k : Int), .int .i64 (l : Int), .slice a m c] 56 (0, 0)) ∧ Below w.heap.size w wr) (fun j _ => m - (intOf j).toNat)
  case atStart => exact ⟨0, rfl, Nat.zero_le _, by simp, HS.out, HB.out⟩
  case round =>
    clear HS HB
    obtain ⟨i, rfl, hi, hno, hS, hB⟩ := hrel
    have HNo := hide hno
    have HS := hide hS
    have HB := hide hB
    clear hS hB hno
    obtain ⟨c0, c1, c2, c3⟩ := Sig4.cells (T := 56) HS.out
    by_cases hlt : i < m
    · obtain ⟨b, hb⟩ : ∃ b, bs[i]? = some b := ⟨bs[i]'(by rw [HM.out]; exact hlt), by rw [List.getElem?_eq_getElem]⟩
      obtain ⟨hbok, hr0⟩ := Hat.out i b hb
      have HP := hide (HA.out i b hlt hb)
      obtain ⟨bw, bx⟩ := b
      have HW0 := hide (fun u (hu : Below w.heap.size w u) => (show u.cell? ⟨g, off + i * 33, none⟩ = some (.int .i64 (bw : Int)) from range_below hr0 hu 0 _ rfl))
      have HR1 := hide (fun u (hu : Below w.heap.size w u) => (show u.rangeAt g (off + i * 33 + 1) (b8 bx) from fun j v hv => by
        have := range_below hr0 hu (j + 1) v (by simpa [blkC] using hv)
        rwa [show off + i * 33 + (j + 1) = off + i * 33 + 1 + j by omega] at this))
      have hbx : bx.length = 32 := hbok.2.1
      have ha1 := ha (by omega)
      subst ha1
      have hins := HIn.out i hlt
      clear hr0 hb ha
      obtain ⟨p, hp⟩ : ∃ p, p = i * s := ⟨_, rfl⟩
      rw [← hp] at HP hins
      have e0 : (i : Int) * (s : Int) = (p : Int) := by rw [hp]; simp
      clear hp
      have d1 : decide ((i : Int) < (m : Int)) = true := by simpa using hlt
      have i1 : (0 : Int) ≤ (i : Int) := by omega
      have i2 : (i : Int) < (m : Int) := by omega
      obtain ⟨q, hq⟩ : ∃ q, q = min s (l - p) := ⟨_, rfl⟩
      rw [← hq] at HP
      have hc : (decide ((l : Int) - (p : Int) < (s : Int)) = false ∧ s = q) ∨ (decide ((l : Int) - (p : Int) < (s : Int)) = true ∧ (l : Int) - (p : Int) = (q : Int) ∧ decide ((q : Int) < (s : Int)) = true ∧ decide (q < s) = true) := by
        by_cases h : (l : Int) - (p : Int) < (s : Int)
        · exact .inr ⟨by simpa using h, by omega, by simp; omega, by simp; omega⟩
        · exact .inl ⟨by simpa using h, by omega⟩
      clear hq
      have HStep : Hid (isIt t ⟨W, Y⟩ ⟨i, q, ⟨bw, bx⟩⟩ = false → ∀ r ∈ ps.take (i + 1), isIt t ⟨W, Y⟩ r = false) := hide (fun h r hr => by
        rw [List.take_add_one, HP.out] at hr
        rcases List.mem_append.1 hr with hr | hr
        · exact HNo.out r hr
        · simp at hr; rw [hr]; exact h)
      by_cases hqt : q = t
      · have e35 : ((q : Int) == (t : Int)) = true := by simp [hqt]
        have e35' : (q == t) = true := by simp [hqt]
        by_cases hw : bw = W
        · have e45 : ((bw : Int) == (W : Int)) = true := by simp [hw]
          have e45' : (bw == W) = true := by simp [hw]
          have hse : ∀ u, Sem.run Tryd.prog (Op.equalIn 10000 79 (.agg (b8 bx).toArray) (.agg (u8s Y))) u = .ok (decide (bx = Y)) u := fun u => Se.sum_eq bx Y hbx hYl u
          by_cases hx : bx = Y
          · have HFi : Hid (∀ u, Below w.heap.size w u → RFind w ps t ⟨W, Y⟩ (.returned (.int .i64 (i : Int))) u) := hide (fun u hu => ⟨⟨i, rfl, .inr ⟨⟨i, q, ⟨bw, bx⟩⟩, rfl, by
              rw [List.find?_eq_some_iff_append]
              refine ⟨by simp [isIt, hqt, hw, hx], ps.take i, ps.drop (i + 1), Km.split_at ps i _ HP.out, fun r hr => by simp [HNo.out r hr]⟩⟩⟩, hu⟩)
            rw [show decide (bx = Y) = true by simpa using hx] at hse
            clear HStep hqt hw hx HP
            rcases hc with ⟨d2, rfl⟩ | ⟨d2, e2, d3, d3'⟩
            all_goals
              go_wp2_with fail
              refine wp_region_keep (fun u => u.heap[w.heap.size]? = some (.cells #[.int .i64 (s : Int), .int .i64 (k : Int), .int .i64 (l : Int), .slice (some ⟨g, off, none⟩) m c] 56 (0, 0)) ∧ Below w.heap.size w u) (by kernel_rfl) (by kernel_rfl) ⟨HS.out, HB.out.drew⟩ ?_
              repeat (first
                | (refine keep_not (by rfl) ?_
                   simp only [Act.put, List.setIfInBounds_toArray, List.set_cons_zero, List.set_cons_succ])
                | (refine keep_step (v := .agg (b8 bx).toArray) (by rfl) (fun u K hS hK => kUpon_load_mid 79 (.tmp 52) rfl g (off + i * 33 + 1) _ rfl (run_loadVar_mid (P := Tryd.prog) u g (off + i * 33 + 1) 79 (b8 bx) _ (HR1.out u hS.2) Tryd.underlying79 rfl (by rw [b8_length, hbx]; kernel_rfl)) (hK _ hS)) ?_
                   simp only [Act.put, List.setIfInBounds_toArray, List.set_cons_zero, List.set_cons_succ])
                | (refine keep_step (v := ?_) (by rfl) (fun u K hS hK => ?_) ?_
                   rotate_left
                   · obtain ⟨c0, c1, c2, c3⟩ := Sig4.cells (T := 56) hS.1
                     have cw := HW0.out u hS.2
                     (go_simp; first
                       | (go_at_call 31; refine (HV.out _).mono ?_; rintro e u2 ⟨rfl, rfl⟩; exact hK _ hS)
                       | (go_at_call 64; refine (HC.out _).mono ?_; rintro e u2 ⟨rfl, hu⟩; exact hK _ ⟨below_blk hu (heap_lt hS.1) hS.1, keepB hu (Nat.le_refl _) hS.2⟩)
                       | (with_reducible exact hK _ hS))
                   simp only [Act.put, List.setIfInBounds_toArray, List.set_cons_zero, List.set_cons_succ]))
              refine keep_nil (fun w6 hS6 => ?_)
              have HS6 := hide hS6
              clear hS6 HS HB c0 c1 c2 c3
              go_wp2
              go_ret
              exact HFi.out _ HS6.out.2
          · have Hst := hide (HStep.out (by simp [isIt, hx]))
            rw [show decide (bx = Y) = false by simpa using hx] at hse
            clear HStep hqt hw hx HP
            rcases hc with ⟨d2, rfl⟩ | ⟨d2, e2, d3, d3'⟩
            all_goals
              go_wp2_with fail
              refine wp_region_keep (fun u => u.heap[w.heap.size]? = some (.cells #[.int .i64 (s : Int), .int .i64 (k : Int), .int .i64 (l : Int), .slice (some ⟨g, off, none⟩) m c] 56 (0, 0)) ∧ Below w.heap.size w u) (by kernel_rfl) (by kernel_rfl) ⟨HS.out, HB.out.drew⟩ ?_
              repeat (first
                | (refine keep_not (by rfl) ?_
                   simp only [Act.put, List.setIfInBounds_toArray, List.set_cons_zero, List.set_cons_succ])
                | (refine keep_step (v := .agg (b8 bx).toArray) (by rfl) (fun u K hS hK => kUpon_load_mid 79 (.tmp 52) rfl g (off + i * 33 + 1) _ rfl (run_loadVar_mid (P := Tryd.prog) u g (off + i * 33 + 1) 79 (b8 bx) _ (HR1.out u hS.2) Tryd.underlying79 rfl (by rw [b8_length, hbx]; kernel_rfl)) (hK _ hS)) ?_
                   simp only [Act.put, List.setIfInBounds_toArray, List.set_cons_zero, List.set_cons_succ])
                | (refine keep_step (v := ?_) (by rfl) (fun u K hS hK => ?_) ?_
                   rotate_left
                   · obtain ⟨c0, c1, c2, c3⟩ := Sig4.cells (T := 56) hS.1
                     have cw := HW0.out u hS.2
                     (go_simp; first
                       | (go_at_call 31; refine (HV.out _).mono ?_; rintro e u2 ⟨rfl, rfl⟩; exact hK _ hS)
                       | (go_at_call 64; refine (HC.out _).mono ?_; rintro e u2 ⟨rfl, hu⟩; exact hK _ ⟨below_blk hu (heap_lt hS.1) hS.1, keepB hu (Nat.le_refl _) hS.2⟩)
                       | (with_reducible exact hK _ hS))
                   simp only [Act.put, List.setIfInBounds_toArray, List.set_cons_zero, List.set_cons_succ]))
              refine keep_nil (fun w6 hS6 => ?_)
              have HS6 := hide hS6
              clear hS6 HS HB c0 c1 c2 c3
              go_wp2
              go_roundw
              case rel => exact ⟨i + 1, by go_num, by omega, Hst.out, HS6.out.1, HS6.out.2⟩
              case measure => simp [intOf]; omega
        · have e45 : ((bw : Int) == (W : Int)) = false := by simp; omega
          have e45' : (bw == W) = false := by simpa using hw
          have Hst := hide (HStep.out (by simp [isIt, hw]))
          clear HStep hqt hw HP
          rcases hc with ⟨d2, rfl⟩ | ⟨d2, e2, d3, d3'⟩
          all_goals
            go_wp2_with fail
            refine wp_region_keep (fun u => u.heap[w.heap.size]? = some (.cells #[.int .i64 (s : Int), .int .i64 (k : Int), .int .i64 (l : Int), .slice (some ⟨g, off, none⟩) m c] 56 (0, 0)) ∧ Below w.heap.size w u) (by kernel_rfl) (by kernel_rfl) ⟨HS.out, HB.out.drew⟩ ?_
            repeat (first
              | (refine keep_not (by rfl) ?_
                 simp only [Act.put, List.setIfInBounds_toArray, List.set_cons_zero, List.set_cons_succ])
              | (refine keep_step (v := .agg (b8 bx).toArray) (by rfl) (fun u K hS hK => kUpon_load_mid 79 (.tmp 52) rfl g (off + i * 33 + 1) _ rfl (run_loadVar_mid (P := Tryd.prog) u g (off + i * 33 + 1) 79 (b8 bx) _ (HR1.out u hS.2) Tryd.underlying79 rfl (by rw [b8_length, hbx]; kernel_rfl)) (hK _ hS)) ?_
                 simp only [Act.put, List.setIfInBounds_toArray, List.set_cons_zero, List.set_cons_succ])
              | (refine keep_step (v := ?_) (by rfl) (fun u K hS hK => ?_) ?_
                 rotate_left
                 · obtain ⟨c0, c1, c2, c3⟩ := Sig4.cells (T := 56) hS.1
                   have cw := HW0.out u hS.2
                   (go_simp; first
                     | (go_at_call 31; refine (HV.out _).mono ?_; rintro e u2 ⟨rfl, rfl⟩; exact hK _ hS)
                     | (go_at_call 64; refine (HC.out _).mono ?_; rintro e u2 ⟨rfl, hu⟩; exact hK _ ⟨below_blk hu (heap_lt hS.1) hS.1, keepB hu (Nat.le_refl _) hS.2⟩)
                     | (with_reducible exact hK _ hS))
                 simp only [Act.put, List.setIfInBounds_toArray, List.set_cons_zero, List.set_cons_succ]))
            refine keep_nil (fun w6 hS6 => ?_)
            have HS6 := hide hS6
            clear hS6 HS HB c0 c1 c2 c3
            go_wp2
            go_roundw
            case rel => exact ⟨i + 1, by go_num, by omega, Hst.out, HS6.out.1, HS6.out.2⟩
            case measure => simp [intOf]; omega
      · have e35 : ((q : Int) == (t : Int)) = false := by simp; omega
        have e35' : (q == t) = false := by simpa using hqt
        have Hst := hide (HStep.out (by simp [isIt, hqt]))
        clear HStep hqt HP
        rcases hc with ⟨d2, rfl⟩ | ⟨d2, e2, d3, d3'⟩
        all_goals
          go_wp2_with fail
          refine wp_region_keep (fun u => u.heap[w.heap.size]? = some (.cells #[.int .i64 (s : Int), .int .i64 (k : Int), .int .i64 (l : Int), .slice (some ⟨g, off, none⟩) m c] 56 (0, 0)) ∧ Below w.heap.size w u) (by kernel_rfl) (by kernel_rfl) ⟨HS.out, HB.out.drew⟩ ?_
          repeat (first
            | (refine keep_not (by rfl) ?_
               simp only [Act.put, List.setIfInBounds_toArray, List.set_cons_zero, List.set_cons_succ])
            | (refine keep_step (v := .agg (b8 bx).toArray) (by rfl) (fun u K hS hK => kUpon_load_mid 79 (.tmp 52) rfl g (off + i * 33 + 1) _ rfl (run_loadVar_mid (P := Tryd.prog) u g (off + i * 33 + 1) 79 (b8 bx) _ (HR1.out u hS.2) Tryd.underlying79 rfl (by rw [b8_length, hbx]; kernel_rfl)) (hK _ hS)) ?_
               simp only [Act.put, List.setIfInBounds_toArray, List.set_cons_zero, List.set_cons_succ])
            | (refine keep_step (v := ?_) (by rfl) (fun u K hS hK => ?_) ?_
               rotate_left
               · obtain ⟨c0, c1, c2, c3⟩ := Sig4.cells (T := 56) hS.1
                 have cw := HW0.out u hS.2
                 (go_simp; first
                   | (go_at_call 31; refine (HV.out _).mono ?_; rintro e u2 ⟨rfl, rfl⟩; exact hK _ hS)
                   | (go_at_call 64; refine (HC.out _).mono ?_; rintro e u2 ⟨rfl, hu⟩; exact hK _ ⟨below_blk hu (heap_lt hS.1) hS.1, keepB hu (Nat.le_refl _) hS.2⟩)
                   | (with_reducible exact hK _ hS))
               simp only [Act.put, List.setIfInBounds_toArray, List.set_cons_zero, List.set_cons_succ]))
          refine keep_nil (fun w6 hS6 => ?_)
          have HS6 := hide hS6
          clear hS6 HS HB c0 c1 c2 c3
          go_wp2
          go_roundw
          case rel => exact ⟨i + 1, by go_num, by omega, Hst.out, HS6.out.1, HS6.out.2⟩
          case measure => simp [intOf]; omega
    · obtain rfl : i = m := by omega
      have d1 : decide ((i : Int) < (i : Int)) = false := by simp
      have HR : Hid (∀ u, Below w.heap.size w u → RFind w ps t ⟨W, Y⟩ (.returned (.int .i64 (-1))) u) := hide (fun u hu => ⟨⟨-1, rfl, .inl ⟨rfl, List.find?_eq_none.2 (fun p hp => by
        have := HNo.out p (by rw [List.take_of_length_le (by rw [HPl.out]; exact Nat.le_refl _)]; exact hp)
        simp [this])⟩⟩, hu⟩)
      clear ha hi
      go_wp2
      go_ret
      exact HR.out _ HB.out
end Go.Proofs.YtifepgigkmhdaaaDoor.Kt
/- Find, whatever stands at the key; a file's own blocks are found. -/
namespace Go.Proofs.YtifepgigkmhdaaaDoor.Ku
set_option linter.unusedVariables false
set_option linter.unusedSimpArgs false
set_option maxRecDepth 100000
open Go.ChangeShapes Go.WideShapes Go.ChangeAt Go.RowKit
open Go.Proofs.YtifepgigkmhdaaaDoor.Wu Go.Proofs.YtifepgigkmhdaaaDoor.Sm Go.Proofs.YtifepgigkmhdaaaDoor.Sh Go.Proofs.YtifepgigkmhdaaaDoor.Ba Go.Proofs.YtifepgigkmhdaaaDoor.Bp Go.Proofs.YtifepgigkmhdaaaDoor.Bs Go.Proofs.YtifepgigkmhdaaaDoor.Ka Go.Proofs.YtifepgigkmhdaaaDoor.Kb Go.Proofs.YtifepgigkmhdaaaDoor.Kc Go.Proofs.YtifepgigkmhdaaaDoor.Kd Go.Proofs.YtifepgigkmhdaaaDoor.Ke Go.Proofs.YtifepgigkmhdaaaDoor.Kf Go.Proofs.YtifepgigkmhdaaaDoor.Kg Go.Proofs.YtifepgigkmhdaaaDoor.Kk Go.Proofs.YtifepgigkmhdaaaDoor.Kl Go.Proofs.YtifepgigkmhdaaaDoor.Ko Go.Proofs.YtifepgigkmhdaaaDoor.Kq Go.Proofs.YtifepgigkmhdaaaDoor.Kt
open Go.Proofs.YtifepgigkmhdaaaDoor.Sn (Fst fst_keep)
open Go.Proofs.YtifepgigkmhdaaaDoor.Sxa (Tbl tbl_keep)
open Go.Proofs.YtifepgigkmhdaaaDoor.Su (cutL Cnt)
theorem find_any (w : World) (T M N k x m c : Nat) (a : Option Addr) (L : List Nat) (es : List (Value × Value)) (G : Nat → List Plc) (hT : w.heap[T]? = some (.cells #[.int .i64 (k : Int), .map (some M)] 138 (0, 0))) (ht : Tab w M N es G) (hx : x < 4294967296) (hk : k ≤ 32) (hs : SrcB w a m L) (hc : m ≤ c) (hbig : m ≤ 140737488355328) (hTb : Tbl w) (hF : Fst w) (hgl : (G x).length ≤ 4096) :
    Calls Tryd.prog 30 #[.pointer (some ⟨T, 0, none⟩), .int .u32 (x : Int), .slice a m c] w (FindP w (G x) m ⟨x, cutL k (sha L)⟩) := by
  by_cases h0 : G x = []
  · exact find_none w T M N k x m c a es G _ hT ht hx h0
  · exact find_some w T M N k x m c a L es G hT ht hx h0 hk hs hc hbig hTb hF hgl
theorem find_grp (s l : Nat) (bs : List Blk) (n x m : Nat) (Y : List Nat) : (grp s l bs n x).find? (isIt m ⟨x, Y⟩) = (plcs s l bs n).find? (isIt m ⟨x, Y⟩) := by
  unfold grp
  rw [List.find?_filter]
  congr 1
  funext p
  by_cases h : isIt m ⟨x, Y⟩ p = true
  · have : p.b.w = x := by
      simp only [isIt, decide_eq_true_eq] at h
      rw [h.2]
    simp [h, this]
  · simp only [Bool.not_eq_true] at h
    simp [h]
theorem own_found (D : List Nat) (s l k n i : Nat) (hi : i < n) : ∃ p, (plcs s l (mkB D s k n) n).find? (isIt (min s (l - i * s)) (blkOf k (piece D s i))) = some p ∧ p.i ≤ i ∧ (mkB D s k n)[p.i]? = some (blkOf k (piece D s i)) := by
  have hat : ∀ j, j < n → (mkB D s k n)[j]? = some (blkOf k (piece D s j)) := fun j hj => by
    unfold mkB
    rw [List.getElem?_map, List.getElem?_range hj]
    rfl
  have hp := plcs_at s l (mkB D s k n) n i _ hi (hat i hi)
  have hit : isIt (min s (l - i * s)) (blkOf k (piece D s i)) ⟨i, min s (l - i * s), blkOf k (piece D s i)⟩ = true := by simp [isIt]
  cases hf : (plcs s l (mkB D s k n) n).find? (isIt (min s (l - i * s)) (blkOf k (piece D s i))) with
  | none =>
    have := List.find?_eq_none.1 hf _ (List.mem_of_getElem? hp)
    exact absurd hit this
  | some p =>
    obtain ⟨h1, pre, suf, h2, h3⟩ := List.find?_eq_some_iff_append.1 hf
    have hj : (plcs s l (mkB D s k n) n)[pre.length]? = some p := by rw [h2]; simp
    have hjn : pre.length < n := by
      have := (List.getElem?_eq_some_iff.1 hj).1
      rwa [plcs_length] at this
    have hpj := plcs_at s l (mkB D s k n) n pre.length _ hjn (hat _ hjn)
    rw [hj] at hpj
    injection hpj with hpj
    subst hpj
    simp only [isIt, decide_eq_true_eq] at h1
    refine ⟨_, rfl, ?_, ?_⟩
    · show pre.length ≤ i
      by_cases h : pre.length ≤ i
      · exact h
      · exfalso
        rw [h2, List.getElem?_append_left (by omega)] at hp
        have := h3 _ (List.mem_of_getElem? hp)
        rw [hit] at this
        cases this
    · show (mkB D s k n)[pre.length]? = _
      rw [hat _ hjn, h1.2]
theorem fnd_det {ps : List Plc} {m : Nat} {b : Blk} {i : Int} {ok : Bool} {p : Plc} (h : Fnd ps m b i ok) (hp : ps.find? (isIt m b) = some p) : ok = true ∧ i = (p.i : Int) := by
  rcases h with ⟨_, _, h⟩ | ⟨q, h1, h2, h3⟩
  · rw [h] at hp; cases hp
  · rw [h3] at hp; injection hp with hp; subst hp; exact ⟨h1, h2⟩
theorem fnd_none {ps : List Plc} {m : Nat} {b : Blk} {i : Int} {ok : Bool} (h : Fnd ps m b i ok) (hp : ps.find? (isIt m b) = none) : ok = false ∧ i = 0 := by
  rcases h with ⟨h1, h2, _⟩ | ⟨q, _, _, h3⟩
  · exact ⟨h1, h2⟩
  · rw [h3] at hp; cases hp
end Go.Proofs.YtifepgigkmhdaaaDoor.Ku
/- law06's plain; the reference's Same. -/
namespace Go.Proofs.YtifepgigkmhdaaaDoor.Kr
set_option linter.unusedVariables false
set_option linter.unusedSimpArgs false
set_option maxRecDepth 100000
open Go.ChangeShapes Go.WideShapes Go.ChangeAt Go.RowKit
open Go.Proofs.YtifepgigkmhdaaaDoor.Wu Go.Proofs.YtifepgigkmhdaaaDoor.Sm Go.Proofs.YtifepgigkmhdaaaDoor.Sh Go.Proofs.YtifepgigkmhdaaaDoor.Ba Go.Proofs.YtifepgigkmhdaaaDoor.Bp Go.Proofs.YtifepgigkmhdaaaDoor.Bs Go.Proofs.YtifepgigkmhdaaaDoor.Ka Go.Proofs.YtifepgigkmhdaaaDoor.Kb Go.Proofs.YtifepgigkmhdaaaDoor.Kc Go.Proofs.YtifepgigkmhdaaaDoor.Kd Go.Proofs.YtifepgigkmhdaaaDoor.Ke Go.Proofs.YtifepgigkmhdaaaDoor.Kf Go.Proofs.YtifepgigkmhdaaaDoor.Rk Go.Proofs.YtifepgigkmhdaaaDoor.Rh Go.Proofs.YtifepgigkmhdaaaDoor.Rw Go.Proofs.YtifepgigkmhdaaaDoor.Rb1 Go.Proofs.YtifepgigkmhdaaaDoor.Kg Go.Proofs.YtifepgigkmhdaaaDoor.Kq
attribute [local go_sem] kUpon_value kUpon_skip kUpon_enter
/-- A new block turned. -/
theorem _root_.Go.Proofs.YtifepgigkmhdaaaDoor.Ke.MB.other {q : IntKind} {e T : TypeId} {w0 : World} {R S N : Nat} {rc : Obj} {sz cut len : Int} {v vo : Value} {bs : List Blk} {u u' : World} {k : Nat} (H : MB q e T w0 R S N rc sz cut len v vo bs u) (hg : u.grownBy u' (some k)) (hk : N ≤ k) (ho : ∀ g, vo.ownBlock = some g → g ≠ k) : MB q e T w0 R S N rc sz cut len v vo bs u' := by
  have h1 := H.hS
  have h2 := H.SN
  have h3 := H.RN
  exact ⟨belowG H.below hg (by omega) H.below.size, H.hS, H.SN, H.RN, H.RS, Nat.le_trans H.Nu hg.size, H.sig.kept hg (fun e => by injection e with e; omega), keepG hg (by omega) H.res, H.own.kept hg (fun e => ho _ e rfl)⟩
set_option maxHeartbeats 3200000 in
theorem plain_c (w : World) (sz cut len : Int) (a : Option Addr) (m c : Nat) (bs : List Blk) (hb : IsBks .u32 w (.slice a m c) bs) (hm : bs.length = m) (hbig : m ≤ 1000000) :
    Calls Tryd.prog 25 #[sigV sz cut len (.slice a m c)] w fun e w' => ∃ v, e = .returned (sigV sz cut len v) ∧ OwnBks .i64 132 w' (w.heap.size + 3) v bs ∧ Below w.heap.size w w' := by
  obtain ⟨a', c', g, off, hv, hmc, hcm, ha, hat⟩ := hb.at
  rw [hm] at hv hmc ha
  injection hv with h1 h2 h3
  subst h1 h3
  have Hat := hide hat
  have HM := hide hm
  clear hat h2 hb hm
  unfold sigV
  have H0 : Hid (MB .i64 132 56 w (w.heap.size + 1) (w.heap.size + 2) (w.heap.size + 3) (.cells #[.int .i64 0, .int .i64 0, .int .i64 0, .slice none 0 0] 56) sz cut len (.slice none 0 0) (.slice none 0 0) [] (((w.alloc (.cells #[.int .i64 sz, .int .i64 cut, .int .i64 len, .slice a m c] 49)).alloc (.cells #[.int .i64 0, .int .i64 0, .int .i64 0, .slice none 0 0] 56)).alloc (.cells #[.int .i64 sz, .int .i64 cut, .int .i64 len, .slice none 0 0] 56))) :=
    hide ⟨(((Below.refl w.heap.size w).alloc (Nat.le_refl _) _).alloc (by simp) _).alloc (by simp; omega) _, by omega, by omega, by omega, by omega, by simp, heap_3c w _ _ _, heap_old (heap_2b w _ _) _, OwnBks.nil _ _ _ _⟩
  go_enter Tryd.func25, Tryd.ntmps25
  go_wp2_with fail
  simp only [Nat.add_assoc, Nat.reduceAdd]
  generalize (((w.alloc (.cells #[.int .i64 sz, .int .i64 cut, .int .i64 len, .slice a m c] 49)).alloc (.cells #[.int .i64 0, .int .i64 0, .int .i64 0, .slice none 0 0] 56)).alloc (.cells #[.int .i64 sz, .int .i64 cut, .int .i64 len, .slice none 0 0] 56)) = w1 at *
  go_loopw [16] (fun j wr => ∃ i v, j = .int .i64 ((i : Nat) : Int) ∧ i ≤ m ∧ MB .i64 132 56 w (w.heap.size + 1) (w.heap.size + 2) (w.heap.size + 3) (.cells #[.int .i64 0, .int .i64 0, .int .i64 0, .slice none 0 0] 56) sz cut len v v (bs.take i) wr) (fun j _ => m - (intOf j).toNat)
  case atStart => exact ⟨0, _, rfl, Nat.zero_le _, H0.out⟩
  case round =>
    clear H0
    obtain ⟨i, v, rfl, hi, hM⟩ := hrel
    have HMb := hide hM
    clear hM
    by_cases hlt : i < m
    · obtain ⟨b, hb⟩ : ∃ b, bs[i]? = some b := ⟨bs[i]'(by rw [HM.out]; exact hlt), by rw [List.getElem?_eq_getElem]⟩
      obtain ⟨hbok, hr0⟩ := Hat.out i b hb
      have HR := hide (fun u (hu : Below w.heap.size w u) => range_below hr0 hu)
      have ha1 := ha (by omega)
      subst ha1
      have Htk : Hid (bs.take (i + 1) = bs.take i ++ [b]) := hide (by rw [List.take_add_one, hb]; rfl)
      have hbl : (bs.take i).length ≤ 1000000000 := by rw [List.length_take]; omega
      clear hr0 hb ha
      have d1 : decide ((i : Int) < (m : Int)) = true := by simpa using hlt
      have i1 : (0 : Int) ≤ (i : Int) := by omega
      have i2 : (i : Int) < (m : Int) := by omega
      have hsz : (blkC .u32 b).length = 33 := blkC_length hbok
      go_wp2_with (first
        | (refine wpList_load_part rfl 81 (.tmp 18) rfl g (off + i * 33) (blkC .u32 b) rfl (HR.out _ HMb.out.below) _ Tryd.underlying81 rfl (by rw [hsz]; kernel_rfl) ?_)
        | (refine wpList_store_all rfl 81 (.tmp 5) (.tmp 19) rfl wr.heap.size (blkC .u32 b).toArray _ 81 rfl rfl (heap_last _ _) (by rw [List.size_toArray, hsz]; rfl) (by rw [List.size_toArray, hsz]; kernel_rfl) (all_oneCell_toArray (blkC_one _ _)) ?_))
      intro w5 H5 HG5
      refine of_hid ?_
      have hws := HMb.out.Nu
      have hM5 := MB.other (HMb.out.up (below_new wr (.cells (blkC .u32 ⟨0, zeros 32⟩).toArray 81))) HG5.out hws (fun q hq => by have := (HMb.out.own.own q hq).2; omega)
      have HM5 := hide hM5
      clear hM5 HMb HG5 HR
      generalize wr.heap.size = B at *
      have hM6 := HM5.out.up (below_new w5 (.cells (blkC .i64 b).toArray 132))
      obtain ⟨v', w7, hrun, ho, hg, -⟩ := append_bk .i64 54 132 _ 40 Tryd.underlying54 info_ref (by omega) (by kernel_rfl) (w5.alloc (.cells (blkC .i64 b).toArray 132)) 54 v _ (bs.take i) w5.heap.size b 132 (0, 0) 1 hM6.own hM6.Nu hbok (heap_last _ _) hbl
      have HM7 := hide (hM6.append hg ho)
      have Hrun := hide hrun
      clear hrun
      obtain ⟨g', n', cap', hv'⟩ := own_some ho (by simp)
      subst hv'
      have Ho7 := hide ho
      obtain ⟨s0, s1, s2, s3⟩ := HM5.out.sig.cells
      obtain ⟨q0, q1, q2, q3⟩ := HM7.out.sig.cells
      have f3 := HM7.out.sig.free 3
      have c0 : w5.cell? ⟨B, 0, none⟩ = some (.int .u32 (b.w : Int)) := blk_cell H5.out rfl
      have hrs : w5.rangeAt B 1 (b8 b.s) := fun j x hx => blk_cell H5.out (by
        simp only [List.getElem?_toArray, blkC, Nat.add_comm 1 j, List.getElem?_cons_succ]
        exact hx)
      have hb32 : (b8 b.s).length = 32 := by rw [b8_length, hbok.2.1]
      have hw32 := hbok.1
      clear hM6 ho hg HM5 H5
      have Hbu : Hid (Tryd.prog.built 132 [(0, .int .i64 (b.w : Int)), (1, .agg (b8 b.s).toArray)] = some (blkC .i64 b).toArray) := hide (by rw [← u8s_b8]; exact built_ref b.w b.s hbok.2.1)
      iterate 22 (first | go_values | go_skip | go_guarded | go_step | go_upon)
      refine wpList_load_part rfl 79 (.tmp 25) rfl B 1 (b8 b.s) rfl hrs _ Tryd.underlying79 rfl (by rw [hb32]; kernel_rfl) ?_
      simp only [Act.put, List.setIfInBounds_toArray, List.set_cons_succ, List.set_cons_zero]
      refine wpList_build_at rfl 132 _ rfl [(0, .int .i64 (b.w : Int)), (1, .agg (b8 b.s).toArray)] rfl _ Hbu.out ?_
      simp only [Act.put, List.setIfInBounds_toArray, List.set_cons_succ, List.set_cons_zero]
      refine wpList_slice_to rfl 54 1 _ rfl [(0, blkV .i64 b)] rfl _ _ (one_ref w5 b hbok) ?_
      simp only [Act.put, List.setIfInBounds_toArray, List.set_cons_succ, List.set_cons_zero]
      refine wpList_append_at rfl 54 (.tmp 21) (.tmp 28) rfl Hrun.out ?_
      simp only [Act.put, List.setIfInBounds_toArray, List.set_cons_succ, List.set_cons_zero]
      go_wp2
      have HM8 := hide HM7.out.store
      rw [← Htk.out] at HM8
      go_roundw
      case rel => exact ⟨i + 1, _, by go_num, by omega, HM8.out⟩
      case measure => simp [intOf]; omega
    · obtain rfl : i = m := by omega
      have hall : bs.take i = bs := List.take_of_length_le (by rw [HM.out]; exact Nat.le_refl _)
      rw [hall] at HMb
      obtain ⟨av, cv, rfl⟩ : ∃ av cv, v = .slice av bs.length cv := by
        obtain ⟨_, av, cv, h, _⟩ := HMb.out.own.is
        exact ⟨av, cv, h⟩
      rw [HM.out] at HMb
      have d6 : decide ((i : Int) < (i : Int)) = false := by simp
      obtain ⟨r0, r1, r2, r3⟩ := HMb.out.sig.cells
      obtain ⟨s0, s1, s2, s3⟩ := sig_cells HMb.out.res
      obtain ⟨f0, f1, f2, f3⟩ := sig_free HMb.out.res
      have hneq : w.heap.size + 2 ≠ w.heap.size + 1 := by omega
      clear hi ha hall
      go_wp2
      have e := sig_set HMb.out.res (.int .i64 sz) (.int .i64 cut) (.int .i64 len) (.slice av i cv)
      have hg := grown_setCell (grown_setCell (grown_setCell (grown_setCell (World.grownBy.refl wr (some (w.heap.size + 1))) 0 (.int .i64 sz)) 1 (.int .i64 cut)) 2 (.int .i64 len)) 3 (.slice av i cv)
      have ho := HMb.out.own.kept hg (fun e => by have := (HMb.out.own.own _ e).1; omega)
      refine bodyPost_ret (v := sigV sz cut len (.slice av i cv)) ?_ rfl ⟨.slice av i cv, rfl, ho, below_set4 HMb.out.below (by omega) _ _ _ _⟩
      have hl := load_ref e
      simp [results, Tryd.results25, asAddr, hl]
end Go.Proofs.YtifepgigkmhdaaaDoor.Kr
/- The reference's Same, at two lists alike. -/
namespace Go.Proofs.YtifepgigkmhdaaaDoor.Ks
set_option linter.unusedVariables false
set_option linter.unusedSimpArgs false
set_option maxRecDepth 100000
open Go.ChangeShapes Go.WideShapes Go.ChangeAt Go.RowKit
open Go.Proofs.YtifepgigkmhdaaaDoor.Wu Go.Proofs.YtifepgigkmhdaaaDoor.Sm Go.Proofs.YtifepgigkmhdaaaDoor.Sh Go.Proofs.YtifepgigkmhdaaaDoor.Ba Go.Proofs.YtifepgigkmhdaaaDoor.Bp Go.Proofs.YtifepgigkmhdaaaDoor.Bs Go.Proofs.YtifepgigkmhdaaaDoor.Ka Go.Proofs.YtifepgigkmhdaaaDoor.Kb Go.Proofs.YtifepgigkmhdaaaDoor.Kc Go.Proofs.YtifepgigkmhdaaaDoor.Kd Go.Proofs.YtifepgigkmhdaaaDoor.Ke Go.Proofs.YtifepgigkmhdaaaDoor.Kf Go.Proofs.YtifepgigkmhdaaaDoor.Rk Go.Proofs.YtifepgigkmhdaaaDoor.Rh Go.Proofs.YtifepgigkmhdaaaDoor.Rx Go.Proofs.YtifepgigkmhdaaaDoor.Rw Go.Proofs.YtifepgigkmhdaaaDoor.Rb1 Go.Proofs.YtifepgigkmhdaaaDoor.Kg Go.Proofs.YtifepgigkmhdaaaDoor.Kq Go.Proofs.YtifepgigkmhdaaaDoor.Kr
attribute [local go_sem] kUpon_value kUpon_skip kUpon_enter
end Go.Proofs.YtifepgigkmhdaaaDoor.Ks
