/- AuthNobody's walk. -/
import Derived.Test.YtifepgigkmhdaaaDoorPk
namespace Go.Proofs.YtifepgigkmhdaaaDoor.AuthNobodyW
set_option linter.unusedVariables false
set_option linter.unusedSimpArgs false
set_option maxRecDepth 100000
open Go.ChangeShapes Go.WideShapes Go.ChangeAt Go.RowKit
open Go.Proofs.YtifepgigkmhdaaaDoor.Wu Go.Proofs.YtifepgigkmhdaaaDoor.Sm Go.Proofs.YtifepgigkmhdaaaDoor.Sh Go.Proofs.YtifepgigkmhdaaaDoor.Ba Go.Proofs.YtifepgigkmhdaaaDoor.Bp Go.Proofs.YtifepgigkmhdaaaDoor.Bs Go.Proofs.YtifepgigkmhdaaaDoor.Ab Go.Proofs.YtifepgigkmhdaaaDoor.Rk Go.Proofs.YtifepgigkmhdaaaDoor.Rx Go.Proofs.YtifepgigkmhdaaaDoor.Ac Go.Proofs.YtifepgigkmhdaaaDoor.Ad Go.Proofs.YtifepgigkmhdaaaDoor.Ae Go.Proofs.YtifepgigkmhdaaaDoor.Af
open Go.Proofs.YtifepgigkmhdaaaDoor.Sn (Fst fst_keep)
open Go.Proofs.YtifepgigkmhdaaaDoor.Sxa (Tbl tbl_keep)
open Go.Proofs.YtifepgigkmhdaaaDoor.Smc (macL)
attribute [local go_sem] kUpon_value kUpon_skip kUpon_enter
/-- What the law lays first. -/
structure NB (w : World) (mo : Array Value) (Z : List Nat) (u : World) : Prop where
  below : Below w.heap.size w u
  mod : u.heap[w.heap.size]? = some (.cells mo 104 (0, 0))
  tr : u.heap[w.heap.size + 1]? = some (.cells (u8s Z) 106 (0, 0))
theorem NB.up {w : World} {mo : Array Value} {Z : List Nat} {u u' : World} (h : NB w mo Z u) (hb : Below u.heap.size u u') : NB w mo Z u' :=
  ⟨keepB hb (Nat.le_refl _) h.below, below_blk hb (heap_lt h.mod) h.mod, below_blk hb (heap_lt h.tr) h.tr⟩
theorem NB.drew {w : World} {mo : Array Value} {Z : List Nat} {u : World} (h : NB w mo Z u) : NB w mo Z u.drew := ⟨h.below.drew, h.mod, h.tr⟩
theorem NB.start (w : World) (mo : Array Value) (Z : List Nat) : NB w mo Z ((w.alloc (.cells mo 104)).alloc (.cells (u8s Z) 106)) :=
  ⟨((Below.refl w.heap.size w).alloc (Nat.le_refl _) _).alloc (by simp) _, heap_2a _ _ _, heap_2b _ _ _⟩
theorem range_app {w : World} {B : Nat} {X Y : List Nat} {T : TypeId} {f : Nat × Nat} (h : w.heap[B]? = some (.cells (u8s (X ++ Y)) T f)) : w.rangeAt B 0 (b8 X) ∧ w.rangeAt B X.length (b8 Y) := by
  have e : b8 (X ++ Y) = b8 X ++ b8 Y := by unfold b8; rw [List.map_append]
  have h8 : w.rangeAt B 0 (b8 (X ++ Y)) := range8_all h
  rw [e] at h8
  refine ⟨fun j v hv => h8 j v ?_, fun j v hv => ?_⟩
  · have hj := (List.getElem?_eq_some_iff.1 hv).1
    rw [List.getElem?_append_left hj]; exact hv
  · have := h8 (X.length + j) v (by
      rw [List.getElem?_append_right (by rw [b8_length]; omega), b8_length, Nat.add_sub_cancel_left]; exact hv)
    rw [Nat.zero_add] at this
    exact this
theorem load_half {w : World} {B o n : Nat} {X : List Nat} (ty : TypeId) (d : TypeDesc) (h : w.rangeAt B o (b8 X)) (hu : Tryd.prog.underlying ty = some d) (hd : d.isRow = true) (hi : (Tryd.prog.info? ty).map (·.size) = some n) (hX : X.length = n) : Sem.run Tryd.prog (loadVar ty ⟨B, o, none⟩) w = .ok (.agg (u8s X)) w := by
  have h4 := run_loadVar_mid (P := Tryd.prog) w B o ty (b8 X) _ h hu hd (by rw [hi]; simp [b8_length, hX])
  exact h4
set_option maxHeartbeats 1600000 in
theorem out_walk (n r nm : ByteArray) (bw : Bool) (sl qu : Int) (a : Option Addr) (m c : Nat) (Z : List Nat) (w : World) (hT : Tbl w) (hF : Fst w) (hg : 20 < m ∨ 100 < n.size) :
    Calls Tryd.prog 12 #[modV n r bw sl qu a m c, .string nm, .agg (u8s Z)] w fun e w' => e = .returned (.bool true) ∧ Below w.heap.size w w' := by
  have hst := NB.start w #[.string n, .string r, .bool bw, .int .i64 sl, .int .i64 qu, .slice a m c] Z
  have H0 := hide hst
  have HH := hide (lets_c _ (tbl_keep hT hst.below (Nat.le_refl _)) (fst_keep hF hst.below (Nat.le_refl _)))
  clear hT hF hst
  obtain ⟨p, hp⟩ : ∃ p, n.size = p := ⟨_, rfl⟩
  rw [hp] at hg
  unfold modV
  have hc : 20 < m ∨ (¬ 20 < m ∧ 100 < p) := by omega
  clear hg
  rcases hc with h1 | ⟨h1, h2⟩
  · have d1 : decide ((20 : Int) < (m : Int)) = true := by simp; omega
    have d1' : decide (20 < m) = true := by simp; omega
    clear h1
    go_enter Tryd.func12, Tryd.ntmps12
    go_wp2_with fail
    generalize ((w.alloc (.cells #[.string n, .string r, .bool bw, .int .i64 sl, .int .i64 qu, .slice a m c] 104)).alloc (.cells (u8s Z) 106)) = w0 at *
    refine HH.out.mono ?_
    rintro e w1 ⟨rfl, hb1⟩
    have H1 := hide (H0.out.up hb1)
    clear hb1 HH H0
    have c0 := blk_cell (i := 0) H1.out.mod rfl
    have c5 := blk_cell (i := 5) H1.out.mod rfl
    go_wp2
    go_ret
    exact ⟨rfl, H1.out.below⟩
  · have d1 : decide ((20 : Int) < (m : Int)) = false := by simp; omega
    have d1' : decide (20 < m) = false := by simp; omega
    have d2 : decide ((100 : Int) < (p : Int)) = true := by simp; omega
    have d2' : decide (100 < p) = true := by simp; omega
    clear h1 h2
    go_enter Tryd.func12, Tryd.ntmps12
    go_wp2_with fail
    generalize ((w.alloc (.cells #[.string n, .string r, .bool bw, .int .i64 sl, .int .i64 qu, .slice a m c] 104)).alloc (.cells (u8s Z) 106)) = w0 at *
    refine HH.out.mono ?_
    rintro e w1 ⟨rfl, hb1⟩
    have H1 := hide (H0.out.up hb1)
    clear hb1 HH H0
    have c0 := blk_cell (i := 0) H1.out.mod rfl
    have c5 := blk_cell (i := 5) H1.out.mod rfl
    go_wp2
    go_ret
    exact ⟨rfl, H1.out.below⟩
set_option maxHeartbeats 3200000 in
theorem in_walk (M : List Nat) (r nm : ByteArray) (bw : Bool) (sl qu : Int) (a : Option Addr) (m c : Nat) (us : List (ByteArray × ByteArray)) (X Y : List Nat) (w : World) (hu : IsUs w a m c us) (hM : All8 M) (hX : X.length = 16 ∧ All8 X) (hY : Y.length = 32 ∧ All8 Y) (hT : Tbl w) (hF : Fst w) (h1 : m ≤ 20) (h2 : M.length ≤ 100) :
    Calls Tryd.prog 12 #[modV (strN M) r bw sl qu a m c, .string nm, .agg (u8s (X ++ Y))] w fun e w' => e = .returned (.bool true) ∧ Below w.heap.size w w' := by
  have hst := NB.start w #[.string (strN M), .string r, .bool bw, .int .i64 sl, .int .i64 qu, .slice a m c] (X ++ Y)
  have H0 := hide hst
  have HH := hide (lets_c _ (tbl_keep hT hst.below (Nat.le_refl _)) (fst_keep hF hst.below (Nat.le_refl _)))
  have HTF := hide (fun (u : World) (hb : Below w.heap.size w u) => (⟨tbl_keep hT hb (Nat.le_refl _), fst_keep hF hb (Nat.le_refl _)⟩ : Tbl u ∧ Fst u))
  have HU := hide hu
  have Hin := hide (⟨hM, hX, hY, h2⟩ : All8 M ∧ (X.length = 16 ∧ All8 X) ∧ (Y.length = 32 ∧ All8 Y) ∧ M.length ≤ 100)
  obtain ⟨hlen, hmc, hcm, g, off, ha, hcell⟩ := hu
  have HL := hide hlen
  have HC := hide (fun i n s (h : us[i]? = some (n, s)) (u : World) (hb : Below w.heap.size w u) => (⟨keepC hb (Nat.le_refl _) (hcell i n s h).1, keepC hb (Nat.le_refl _) (hcell i n s h).2⟩ : _ ∧ _))
  have e1 := strN_size M
  clear hT hF hst hX hY hlen hcell
  obtain ⟨p, hp⟩ : ∃ p, p = M.length := ⟨_, rfl⟩
  rw [← hp] at e1 h2
  obtain ⟨SM, hSM⟩ : ∃ SM, SM = strN M := ⟨_, rfl⟩
  have HSM := hide hSM
  rw [← hSM] at H0 HH e1 ⊢
  clear hp hSM hM
  unfold modV
  have d1 : decide ((20 : Int) < (m : Int)) = false := by simp; omega
  have d1' : decide (20 < m) = false := by simp; omega
  have d2 : decide ((100 : Int) < (p : Int)) = false := by simp; omega
  have d2' : decide (100 < p) = false := by simp; omega
  go_enter Tryd.func12, Tryd.ntmps12
  go_wp2_with fail
  generalize ((w.alloc (.cells #[.string SM, .string r, .bool bw, .int .i64 sl, .int .i64 qu, .slice a m c] 104)).alloc (.cells (u8s (X ++ Y)) 106)) = w0 at *
  refine HH.out.mono ?_
  rintro e w1 ⟨rfl, hb1⟩
  have H1 := hide (H0.out.up hb1)
  clear hb1 HH H0
  have c0 := blk_cell (i := 0) H1.out.mod rfl
  have c5 := blk_cell (i := 5) H1.out.mod rfl
  go_wp2_with fail
  clear c0 c5 d1 d1' d2 d2'
  go_loopw [25] (fun j wr => ∃ k, j = .int .i64 ((k : Nat) : Int) ∧ k ≤ m ∧ Hid (∀ x ∈ us.take k, named nm x = false ∧ x.2.size ≤ 200) ∧ NB w #[.string SM, .string r, .bool bw, .int .i64 sl, .int .i64 qu, .slice a m c] (X ++ Y) wr) (fun j _ => m - (intOf j).toNat)
  case atStart => exact ⟨0, rfl, Nat.zero_le _, (show ∀ x ∈ us.take 0, _ from by simp), H1.out⟩
  case round =>
    clear H1
    obtain ⟨k, rfl, hk, HN, hnb⟩ := hrel
    have H1 := hide hnb
    clear hnb
    by_cases hlt : k < m
    · obtain ⟨⟨n, s⟩, hks⟩ : ∃ u, us[k]? = some u := ⟨us[k]'(by rw [HL.out]; exact hlt), by rw [List.getElem?_eq_getElem]⟩
      obtain ⟨c0, c1⟩ := HC.out k n s hks wr H1.out.below
      have Hk := hide hks
      obtain rfl := ha (by omega)
      clear hks ha
      have d1 : decide ((k : Int) < (m : Int)) = true := by simpa using hlt
      have i1 : (0 : Int) ≤ (k : Int) := by omega
      have i2 : (k : Int) < (m : Int) := by omega
      have HNn := hide (fun (h1 : named nm (n, s) = false) (h2 : s.size ≤ 200) => (show ∀ x ∈ us.take (k + 1), named nm x = false ∧ x.2.size ≤ 200 from fun x hx => by
        rw [List.take_add_one, Hk.out] at hx
        rcases List.mem_append.1 hx with hx | hx
        · exact HN.out x hx
        · simp at hx; rw [hx]; exact ⟨h1, h2⟩))
      obtain ⟨z, hz⟩ : ∃ z, s.size = z := ⟨_, rfl⟩
      rw [hz] at HNn
      clear HN Hk
      cases hq : named nm (n, s) with
      | true =>
        have hnn : (n.toList == nm.toList) = true := hq
        have HBe := hide (H1.out.up (below_new wr (.cells #[.string n, .string s] 109))).below
        clear hq HNn
        go_wp2
        go_ret
        exact ⟨rfl, HBe.out⟩
      | false =>
        have hnn : (n.toList == nm.toList) = false := hq
        by_cases hz2 : 200 < z
        · have d3 : decide ((200 : Int) < (z : Int)) = true := by simp; omega
          have d3' : decide (200 < z) = true := by simp; omega
          have HBe := hide (H1.out.up (below_new wr (.cells #[.string n, .string s] 109))).below
          clear hq HNn hz2
          go_wp2
          go_ret
          exact ⟨rfl, HBe.out⟩
        · have d3 : decide ((200 : Int) < (z : Int)) = false := by simp; omega
          have d3' : decide (200 < z) = false := by simp; omega
          have HNx := hide (HNn.out hq (by omega))
          have H2 := hide (H1.out.up (below_new wr (.cells #[.string n, .string s] 109)))
          clear hq HNn hz2 H1
          go_wp2
          go_roundw
          case rel => exact ⟨k + 1, by go_num, by omega, HNx, H2.out⟩
          case measure => simp [intOf]; omega
    · obtain rfl : k = m := by omega
      have d1 : decide ((k : Int) < (k : Int)) = false := by simp
      have hall := HN.out
      rw [List.take_of_length_le (by rw [HL.out]; exact Nat.le_refl _)] at hall
      have hf : us.find? (named nm) = none := List.find?_eq_none.2 (fun x hx => by simp [(hall x hx).1])
      have he1 : chkE us nm M X Y = 140 := by unfold chkE; rw [hf]
      obtain ⟨hM, hX, hY, hMl⟩ := Hin.out
      obtain ⟨A2, hA2⟩ : ∃ A, A = macL [] (X ++ M) := ⟨_, rfl⟩
      have hA2l : A2.length = 32 := by rw [hA2]; rfl
      have he2 : chkE [] nm M X A2 = 140 := rfl
      have HC1 := hide (fun (u : World) (hb : Below w.heap.size w u) => check_c M r nm bw sl qu a k c us X Y u (HU.out.below hb) hM (by omega) hX.2 hX.1 hY.1 (fun x hx => by have := (hall x hx).2; omega) (HTF.out u hb).1 (HTF.out u hb).2)
      rw [he1, ← HSM.out] at HC1
      have HC2 := hide (fun (u : World) (hb : Below w.heap.size w u) => check_c M r nm bw sl qu none 0 0 [] X A2 u (IsUs.nil u none 0 (by omega)) hM (by omega) hX.2 hX.1 hA2l (fun x hx => by cases hx) (HTF.out u hb).1 (HTF.out u hb).2)
      rw [he2, ← HSM.out] at HC2
      have HA2 := hide (fun (u : World) (hb : Below w.heap.size w u) => ans_c [] M X u (by intro z hz; cases hz) hM hX.2 hX.1 (by simp) (by omega) (HTF.out u hb).1 (HTF.out u hb).2)
      rw [← hA2, ← HSM.out] at HA2
      have HA3 : Hid (∀ (u : World), Below w.heap.size w u → Calls Tryd.prog 45 #[.string ⟨#[]⟩, .string SM, .agg (u8s X)] u fun e w' => e = .returned (.agg (u8s A2)) ∧ Below u.heap.size u w') := HA2
      have HXl := hide (⟨hX.1, hY.1⟩ : _ ∧ _)
      unfold modV at HC1 HC2
      clear hall hf he1 he2 hM hX hY hMl hA2 hA2l HA2 HN ha hk HU Hin HTF HSM HL
      have c0 := blk_cell (i := 0) H1.out.mod rfl
      have c1 := blk_cell (i := 1) H1.out.mod rfl
      have c2 := blk_cell (i := 2) H1.out.mod rfl
      have c3 := blk_cell (i := 3) H1.out.mod rfl
      have c4 := blk_cell (i := 4) H1.out.mod rfl
      have c5 := blk_cell (i := 5) H1.out.mod rfl
      go_wp2_with fail
      have H2 := hide (H1.out.up (below_new wr (.cells #[.string SM, .string r, .bool bw, .int .i64 sl, .int .i64 qu, .slice none 0 0] 104)))
      have HM2 := hide (heap_last wr (.cells #[.string SM, .string r, .bool bw, .int .i64 sl, .int .i64 qu, .slice none 0 0] 104))
      have hrZ := fun (u : World) (h : u.heap[w.heap.size + 1]? = some (.cells (u8s (X ++ Y)) 106 (0, 0))) => range_app (X := X) (Y := Y) h
      have HrZ := hide hrZ
      rw [HXl.out.1] at HrZ
      clear H1 c0 c1 c2 c3 c4 c5 hrZ
      generalize (wr.alloc (.cells #[.string SM, .string r, .bool bw, .int .i64 sl, .int .i64 qu, .slice none 0 0] 104)) = w2 at *
      generalize wr.heap.size = MB at *
      refine wp_region_keep (fun u => NB w #[.string SM, .string r, .bool bw, .int .i64 sl, .int .i64 qu, .slice a k c] (X ++ Y) u ∧ u.heap[MB]? = some (.cells #[.string SM, .string r, .bool bw, .int .i64 sl, .int .i64 qu, .slice none 0 0] 104 (0, 0))) (by kernel_rfl) (by kernel_rfl) ⟨H2.out.drew, HM2.out⟩ ?_
      repeat (first
        | (refine keep_step (v := .agg (u8s X)) (by rfl) (fun u K hS hK => kUpon_load_mid 98 (.tmp 44) rfl (w.heap.size + 1) 0 _ rfl (load_half 98 _ (HrZ.out u hS.1.tr).1 Tryd.underlying98 rfl infoN HXl.out.1) (hK _ hS)) ?_
           simp only [Act.put, List.setIfInBounds_toArray, List.set_cons_zero, List.set_cons_succ])
        | (refine keep_step (v := .agg (u8s Y)) (by rfl) (fun u K hS hK => kUpon_load_mid 79 (.tmp 46) rfl (w.heap.size + 1) 16 _ rfl (load_half 79 _ (HrZ.out u hS.1.tr).2 Tryd.underlying79 rfl infoS HXl.out.2) (hK _ hS)) ?_
           simp only [Act.put, List.setIfInBounds_toArray, List.set_cons_zero, List.set_cons_succ])
        | (refine keep_step (v := .agg (u8s X)) (by rfl) (fun u K hS hK => kUpon_load_mid 98 (.tmp 53) rfl (w.heap.size + 1) 0 _ rfl (load_half 98 _ (HrZ.out u hS.1.tr).1 Tryd.underlying98 rfl infoN HXl.out.1) (hK _ hS)) ?_
           simp only [Act.put, List.setIfInBounds_toArray, List.set_cons_zero, List.set_cons_succ])
        | (refine keep_step (v := .agg (u8s X)) (by rfl) (fun u K hS hK => kUpon_load_mid 98 (.tmp 57) rfl (w.heap.size + 1) 0 _ rfl (load_half 98 _ (HrZ.out u hS.1.tr).1 Tryd.underlying98 rfl infoN HXl.out.1) (hK _ hS)) ?_
           simp only [Act.put, List.setIfInBounds_toArray, List.set_cons_zero, List.set_cons_succ])
        | (refine keep_step (v := ?_) (by rfl) (fun u K hS hK => ?_) ?_
           rotate_left
           · have c0 := blk_cell (i := 0) hS.1.mod rfl
             have c1 := blk_cell (i := 1) hS.1.mod rfl
             have c2 := blk_cell (i := 2) hS.1.mod rfl
             have c3 := blk_cell (i := 3) hS.1.mod rfl
             have c4 := blk_cell (i := 4) hS.1.mod rfl
             have c5 := blk_cell (i := 5) hS.1.mod rfl
             have m0 := blk_cell (i := 0) hS.2 rfl
             have m1 := blk_cell (i := 1) hS.2 rfl
             have m2 := blk_cell (i := 2) hS.2 rfl
             have m3 := blk_cell (i := 3) hS.2 rfl
             have m4 := blk_cell (i := 4) hS.2 rfl
             have m5 := blk_cell (i := 5) hS.2 rfl
             (go_simp; first
               | (go_at_call 47; (with_reducible refine Calls.mono (HC1.out _ hS.1.below) ?_); rintro e u2 ⟨rfl, hu⟩; exact hK _ ⟨hS.1.up hu, below_blk hu (heap_lt hS.2) hS.2⟩)
               | (go_at_call 47; (with_reducible refine Calls.mono (HC2.out _ hS.1.below) ?_); rintro e u2 ⟨rfl, hu⟩; exact hK _ ⟨hS.1.up hu, below_blk hu (heap_lt hS.2) hS.2⟩)
               | (go_at_call 45; (with_reducible refine Calls.mono (HA3.out _ hS.1.below) ?_); rintro e u2 ⟨rfl, hu⟩; exact hK _ ⟨hS.1.up hu, below_blk hu (heap_lt hS.2) hS.2⟩)
               | (with_reducible exact hK _ hS))
           simp only [Act.put, List.setIfInBounds_toArray, List.set_cons_zero, List.set_cons_succ]))
      refine keep_nil (fun w3 hS3 => ?_)
      have HB3 := hide hS3.1.below
      clear hS3
      go_wp2
      go_ret
      exact ⟨rfl, HB3.out⟩
theorem walk_any (n r nm : ByteArray) (bw : Bool) (sl qu : Int) (a : Option Addr) (m c : Nat) (us : List (ByteArray × ByteArray)) (X Y : List Nat) (w : World) (hu : IsUs w a m c us) (hX : X.length = 16 ∧ All8 X) (hY : Y.length = 32 ∧ All8 Y) (hT : Tbl w) (hF : Fst w) :
    Calls Tryd.prog 12 #[modV n r bw sl qu a m c, .string nm, .agg (u8s (X ++ Y))] w fun e w' => e = .returned (.bool true) ∧ Below w.heap.size w w' := by
  by_cases hg : 20 < m ∨ 100 < n.size
  · exact out_walk n r nm bw sl qu a m c (X ++ Y) w hT hF hg
  · obtain ⟨M, hM, rfl, hMl⟩ := strN_of n
    exact in_walk M r nm bw sl qu a m c us X Y w hu hM hX hY hT hF (by omega) (by omega)
end Go.Proofs.YtifepgigkmhdaaaDoor.AuthNobodyW
