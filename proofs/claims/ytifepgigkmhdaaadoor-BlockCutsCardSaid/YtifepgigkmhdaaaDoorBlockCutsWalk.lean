/- BlockCuts' walk. -/
import Derived.Test.YtifepgigkmhdaaaDoorPh
import Derived.Test.YtifepgigkmhdaaaDoorKw
import Derived.Test.YtifepgigkmhdaaaDoorPf
import Derived.BigQuiet
import Derived.Deep.QuietTactic
namespace Go.Proofs.YtifepgigkmhdaaaDoor.BlockCutsW
set_option linter.unusedVariables false
set_option linter.unusedSimpArgs false
set_option maxRecDepth 100000
open Go.ChangeShapes Go.WideShapes Go.ChangeAt Go.RowKit
open Go.Proofs.YtifepgigkmhdaaaDoor.Wu Go.Proofs.YtifepgigkmhdaaaDoor.Sm Go.Proofs.YtifepgigkmhdaaaDoor.Sh Go.Proofs.YtifepgigkmhdaaaDoor.Ba Go.Proofs.YtifepgigkmhdaaaDoor.Bp Go.Proofs.YtifepgigkmhdaaaDoor.Bq Go.Proofs.YtifepgigkmhdaaaDoor.Cm Go.Proofs.YtifepgigkmhdaaaDoor.Ka Go.Proofs.YtifepgigkmhdaaaDoor.Kb Go.Proofs.YtifepgigkmhdaaaDoor.Kc Go.Proofs.YtifepgigkmhdaaaDoor.Kd Go.Proofs.YtifepgigkmhdaaaDoor.Ke Go.Proofs.YtifepgigkmhdaaaDoor.Kf Go.Proofs.YtifepgigkmhdaaaDoor.Rk Go.Proofs.YtifepgigkmhdaaaDoor.Rx Go.Proofs.YtifepgigkmhdaaaDoor.Rw Go.Proofs.YtifepgigkmhdaaaDoor.Kg Go.Proofs.YtifepgigkmhdaaaDoor.Kj Go.Proofs.YtifepgigkmhdaaaDoor.Kp Go.Proofs.YtifepgigkmhdaaaDoor.Kw
open Go.Proofs.YtifepgigkmhdaaaDoor.Sn (Fst fst_keep)
open Go.Proofs.YtifepgigkmhdaaaDoor.Sxa (Tbl tbl_keep)
open Go.Proofs.YtifepgigkmhdaaaDoor.Su (cutL Cnt cutL_length)
attribute [local go_sem] kUpon_value kUpon_skip kUpon_enter
theorem cutL_set (k : Nat) (X : List Nat) (hX : X.length = 32) (hk : k < 32) : (cutL (k + 1) X).set k 0 = cutL k X := by
  unfold cutL
  have hl : (X.take k).length = k := by rw [List.length_take]; omega
  rw [List.take_succ_eq_append_getElem (by omega), List.append_assoc, List.set_append_right _ _ (by omega), hl, Nat.sub_self, show 32 - k = (32 - (k + 1)) + 1 by omega]
  rfl
theorem blkC_set (q : IntKind) (W k : Nat) (X : List Nat) (hX : X.length = 32) (hk : k < 32) : (blkC q ⟨W, cutL (k + 1) X⟩).toArray.setIfInBounds (1 + k) (.int .u8 0) = (blkC q ⟨W, cutL k X⟩).toArray := by
  rw [← cutL_set k X hX hk]
  simp [blkC, b8, Nat.add_comm 1 k, List.map_set]
theorem blks_more (D : List Nat) (s k : Nat) (hk : k ≤ 31) : ∀ is : List Nat,
    ((is.map fun i => blkOf (k + 1) (piece D s i)).flatMap (blkL (k + 1))).length = ((is.map fun i => blkOf k (piece D s i)).flatMap (blkL k)).length + is.length
  | [] => rfl
  | i :: is => by
    have ih := blks_more D s k hk is
    have e1 : (blkL (k + 1) (blkOf (k + 1) (piece D s i))).length = (blkL k (blkOf k (piece D s i))).length + 1 := by
      unfold blkL blkOf
      rw [List.length_append, List.length_append, List.length_take, List.length_take, cutL_length _ _ (by omega) (sha_len _), cutL_length _ _ (by omega) (sha_len _)]
      show (numL (wkN (piece D s i))).length + _ = (numL (wkN (piece D s i))).length + _ + 1
      omega
    simp only [List.map_cons, List.flatMap_cons, List.length_append, List.length_cons]
    omega
theorem sig_more (D : List Nat) (s k m n : Nat) (hk : k ≤ 31) : (sigL s (k + 1) m (mkB D s (k + 1) n)).length = (sigL s k m (mkB D s k n)).length + n := by
  have h := blks_more D s k hk (List.range n)
  rw [List.length_range] at h
  unfold sigL headL mkB
  simp only [List.length_append]
  rw [h, numL_small k (by omega), numL_small (k + 1) (by omega)]
  simp only [List.length_cons, List.length_nil]
  omega
theorem sig_top (s k m : Nat) (bs : List Blk) (h : Oks bs) (hk : k ≤ 32) (hs : s ≤ 1099511627776) (hm : m ≤ 1099511627776) (hn : bs.length ≤ 4096) : (sigL s k m bs).length ≤ 200000 := by
  have h1 := headL_len s k m hs (by omega) hm
  have h2 := blks_len (k := k) h hk
  unfold sigL
  rw [List.length_append]
  omega
theorem out_walk (a : Option Addr) (m c : Nat) (x y : Int) (w : World) (hT : Tbl w) (hF : Fst w) (hg : 200 < m ∨ y < 0 ∨ 31 < y) :
    Calls Tryd.prog 6 #[.slice a m c, .int .i64 x, .int .i64 y] w fun e w' => e = .returned (.bool true) ∧ Below w.heap.size w w' := by
  have HH := hide (sums_c w hT hF)
  clear hT hF
  have hc : 200 < m ∨ (¬ 200 < m ∧ y < 0) ∨ (¬ 200 < m ∧ ¬ y < 0 ∧ 31 < y) := by omega
  clear hg
  rcases hc with h1 | ⟨h1, h2⟩ | ⟨h1, h2, h3⟩
  · have d1 : decide ((200 : Int) < (m : Int)) = true := by simp; omega
    have d1' : decide (200 < m) = true := by simp; omega
    clear h1
    go_enter Tryd.func6, Tryd.ntmps6
    go_wp2_with fail
    refine HH.out.mono ?_
    rintro e w1 ⟨rfl, hb1⟩
    have HB1 := hide hb1
    clear hb1
    go_wp2
    go_ret
    exact ⟨rfl, HB1.out⟩
  · have d1 : decide ((200 : Int) < (m : Int)) = false := by simp; omega
    have d1' : decide (200 < m) = false := by simp; omega
    have d2 : decide (y < 0) = true := by simpa using h2
    clear h1 h2
    go_enter Tryd.func6, Tryd.ntmps6
    go_wp2_with fail
    refine HH.out.mono ?_
    rintro e w1 ⟨rfl, hb1⟩
    have HB1 := hide hb1
    clear hb1
    go_wp2
    go_ret
    exact ⟨rfl, HB1.out⟩
  · have d1 : decide ((200 : Int) < (m : Int)) = false := by simp; omega
    have d1' : decide (200 < m) = false := by simp; omega
    have d2 : decide (y < 0) = false := by simpa using h2
    have d3 : decide (31 < y) = true := by simpa using h3
    clear h1 h2 h3
    go_enter Tryd.func6, Tryd.ntmps6
    go_wp2_with fail
    refine HH.out.mono ?_
    rintro e w1 ⟨rfl, hb1⟩
    have HB1 := hide hb1
    clear hb1
    go_wp2
    go_ret
    exact ⟨rfl, HB1.out⟩
set_option maxHeartbeats 1600000 in
theorem bad_walk (a : Option Addr) (m c : Nat) (x : Int) (k : Nat) (w : World) (hT : Tbl w) (hF : Fst w) (hm : m ≤ 200) (hk : k ≤ 31) (hf : fitsE x k m = 1) (hf' : fitsE x ((k + 1 : Nat) : Int) m = 1) :
    Calls Tryd.prog 6 #[.slice a m c, .int .i64 x, .int .i64 (k : Int)] w fun e w' => e = .returned (.bool true) ∧ Below w.heap.size w w' := by
  have HH := hide (sums_c w hT hF)
  have hA : ∀ u, Calls Tryd.prog 28 #[.slice a m c, .int .i64 x, .int .i64 (k : Int)] u fun e w' => e = .returned (.tuple #[sigV 0 0 0 (.slice none 0 0), .int .i64 1]) ∧ Below u.heap.size u w' := fun u => by
    have h := make_bad a m c x k u (by omega) (by rw [hf]; decide)
    rwa [hf] at h
  have hA2 : ∀ u, Calls Tryd.prog 28 #[.slice a m c, .int .i64 x, .int .i64 ((k : Int) + 1)] u fun e w' => e = .returned (.tuple #[sigV 0 0 0 (.slice none 0 0), .int .i64 1]) ∧ Below u.heap.size u w' := fun u => by
    have h := make_bad a m c x ((k + 1 : Nat) : Int) u (by omega) (by rw [hf']; decide)
    rwa [hf'] at h
  have HA := hide hA
  have HA2 := hide hA2
  clear hf hf' hT hF hA hA2
  have d1 : decide ((200 : Int) < (m : Int)) = false := by simp; omega
  have d1' : decide (200 < m) = false := by simp; omega
  have d2 : decide ((k : Int) < 0) = false := by simp
  have d3 : decide ((31 : Int) < (k : Int)) = false := by simp; omega
  have d3' : decide (31 < k) = false := by simp; omega
  go_enter Tryd.func6, Tryd.ntmps6
  go_wp2_with fail
  refine HH.out.mono ?_
  rintro e w1 ⟨rfl, hb1⟩
  have HB1 := hide hb1
  clear hb1 HH
  go_wp2_with fail
  (with_reducible refine Calls.mono (HA.out w1) ?_)
  rintro e w3 ⟨rfl, hb3⟩
  have HB3 := hide (keepB hb3 (Nat.le_refl _) HB1.out)
  clear hb3 HB1 HA
  unfold sigV at HA2 ⊢
  have HB4 := hide (keepB (below_new w3 (.cells #[.int .i64 0, .int .i64 0, .int .i64 0, .slice none 0 0] 49)) (Nat.le_refl _) HB3.out)
  go_wp2_with fail
  generalize (w3.alloc (.cells #[.int .i64 0, .int .i64 0, .int .i64 0, .slice none 0 0] 49)) = w4 at *
  (with_reducible refine Calls.mono (HA2.out w4) ?_)
  rintro e w5 ⟨rfl, hb5⟩
  have HB5 := hide (keepB hb5 (Nat.le_refl _) HB4.out)
  clear hb5 HB4 HA2
  have HB6 := hide (keepB (below_new w5 (.cells #[.int .i64 0, .int .i64 0, .int .i64 0, .slice none 0 0] 49)) (Nat.le_refl _) HB5.out)
  go_wp2
  go_ret
  exact ⟨rfl, HB6.out⟩
set_option maxHeartbeats 6400000 in
theorem in_walk (a : Option Addr) (m c : Nat) (D : List Nat) (s k n : Nat) (w : World) (hs : SrcB w a m D) (hc : m ≤ c) (hcm : c ≤ 9223372036854775807) (hT : Tbl w) (hF : Fst w) (hm : m ≤ 200) (hk : k ≤ 31)
    (hf : fitsE (s : Int) (k : Int) m = 0) (hf' : fitsE (s : Int) ((k + 1 : Nat) : Int) m = 0) (hn : cntZ m s = (n : Int)) :
    Calls Tryd.prog 6 #[.slice a m c, .int .i64 (s : Int), .int .i64 (k : Int)] w fun e w' => e = .returned (.bool true) ∧ Below w.heap.size w w' := by
  have hz := fitsE_zero hf
  have hs2 : s ≤ 4096 := by omega
  have hn4 : n ≤ 4096 := by omega
  have HH := hide (sums_c w hT hF)
  have HA := hide (fun u (hu : Below w.heap.size w u) => make_ok a m c D s k n u (hs.below hu) hc hcm hf hn (tbl_keep hT hu (Nat.le_refl _)) (fst_keep hF hu (Nat.le_refl _)))
  have HA2 := hide (fun u (hu : Below w.heap.size w u) => make_ok a m c D s (k + 1) n u (hs.below hu) hc hcm hf' hn (tbl_keep hT hu (Nat.le_refl _)) (fst_keep hF hu (Nat.le_refl _)))
  have Hlen := hide (sig_more D s k m n hk)
  have Htop := hide (sig_top s k m (mkB D s k n) (mkB_oks D s k n (by omega)) (by omega) (by omega) (by omega) (by rw [mkB_length]; exact hn4))
  have HP1 := hide (fun (u : World) (cv : Nat) (av : Option Addr) (hb : IsBks .u32 u (.slice av n cv) (mkB D s k n)) => bytes_ok u s k m n cv av _ hb (mkB_length D s k n) (mk_check D s k n m hf hn))
  have HP2 := hide (fun (u : World) (cv : Nat) (av : Option Addr) (hb : IsBks .u32 u (.slice av n cv) (mkB D s (k + 1) n)) => bytes_ok u s (k + 1) m n cv av _ hb (mkB_length D s (k + 1) n) (mk_check D s (k + 1) n m hf' hn))
  have ek : ((k : Int) + 1) = ((k + 1 : Nat) : Int) := by simp
  rw [← ek] at HA2 HP2
  have HAt := hide (fun (i : Nat) (hi : i < n) => (show (mkB D s k n)[i]? = some (blkOf k (piece D s i)) ∧ (mkB D s (k + 1) n)[i]? = some (blkOf (k + 1) (piece D s i)) from ⟨by
    unfold mkB
    rw [List.getElem?_map, List.getElem?_range hi]
    rfl, by
    unfold mkB
    rw [List.getElem?_map, List.getElem?_range hi]
    rfl⟩))
  have hml := mkB_length D s k n
  have hml' := mkB_length D s (k + 1) n
  clear hf hf' hn hz hs hT hF ek
  obtain ⟨bs, hbs⟩ : ∃ bs, bs = mkB D s k n := ⟨_, rfl⟩
  obtain ⟨bt, hbt⟩ : ∃ bt, bt = mkB D s (k + 1) n := ⟨_, rfl⟩
  rw [← hbs] at HA Hlen Htop HP1 HAt hml
  rw [← hbt] at HA2 Hlen HP2 HAt hml'
  clear hbs hbt
  have d1 : decide ((200 : Int) < (m : Int)) = false := by simp; omega
  have d1' : decide (200 < m) = false := by simp; omega
  have d2 : decide ((k : Int) < 0) = false := by simp
  have d3 : decide ((31 : Int) < (k : Int)) = false := by simp; omega
  have d3' : decide (31 < k) = false := by simp; omega
  go_enter Tryd.func6, Tryd.ntmps6
  go_wp2_with fail
  refine HH.out.mono ?_
  rintro e w1 ⟨rfl, hb1⟩
  have HB1 := hide hb1
  clear hb1 HH
  go_wp2_with fail
  (with_reducible refine Calls.mono (HA.out w1 HB1.out) ?_)
  rintro e w3 ⟨v, rfl, ho, hb3⟩
  have HB3 := hide (keepB hb3 (Nat.le_refl _) HB1.out)
  have his := ho.is
  obtain ⟨_, av, cv, hv, -⟩ := ho.is
  rw [hml] at hv
  subst hv
  clear hb3 HB1 HA ho
  unfold sigV
  have HI3 := hide (his.below (below_new w3 (.cells #[.int .i64 (s : Int), .int .i64 (k : Int), .int .i64 (m : Int), .slice av n cv] 49)))
  have HS3 := hide (heap_last w3 (.cells #[.int .i64 (s : Int), .int .i64 (k : Int), .int .i64 (m : Int), .slice av n cv] 49))
  have HB4 := hide (keepB (below_new w3 (.cells #[.int .i64 (s : Int), .int .i64 (k : Int), .int .i64 (m : Int), .slice av n cv] 49)) (Nat.le_refl _) HB3.out)
  have hne : w3.heap.size < (w3.alloc (.cells #[.int .i64 (s : Int), .int .i64 (k : Int), .int .i64 (m : Int), .slice av n cv] 49)).heap.size := by simp
  clear his HB3
  go_wp2_with fail
  generalize (w3.alloc (.cells #[.int .i64 (s : Int), .int .i64 (k : Int), .int .i64 (m : Int), .slice av n cv] 49)) = w4 at *
  generalize w3.heap.size = S1 at *
  (with_reducible refine Calls.mono (HA2.out w4 HB4.out) ?_)
  rintro e w5 ⟨v, rfl, ho, hb5⟩
  have HB5 := hide (keepB hb5 (Nat.le_refl _) HB4.out)
  have HS5 := hide (below_blk hb5 hne HS3.out)
  have HI5 := hide (HI3.out.below hb5)
  have hne5 : S1 < w5.heap.size := Nat.lt_of_lt_of_le hne hb5.size
  have his := ho.is
  obtain ⟨_, at', ct, hv, -⟩ := ho.is
  rw [hml'] at hv
  subst hv
  clear hb5 HB4 HA2 ho HS3 HI3 hne
  unfold sigV
  have hn6 := below_new w5 (.cells #[.int .i64 (s : Int), .int .i64 ((k : Int) + 1), .int .i64 (m : Int), .slice at' n ct] 49)
  have HJ6 := hide (his.below hn6)
  have HI6 := hide (HI5.out.below hn6)
  have HR6 := hide (heap_last w5 (.cells #[.int .i64 (s : Int), .int .i64 ((k : Int) + 1), .int .i64 (m : Int), .slice at' n ct] 49))
  have HS6 := hide (heap_old HS5.out (.cells #[.int .i64 (s : Int), .int .i64 ((k : Int) + 1), .int .i64 (m : Int), .slice at' n ct] 49))
  have HB6 := hide (keepB hn6 (Nat.le_refl _) HB5.out)
  have hne6 : S1 < w5.heap.size ∧ w5.heap.size < (w5.alloc (.cells #[.int .i64 (s : Int), .int .i64 ((k : Int) + 1), .int .i64 (m : Int), .slice at' n ct] 49)).heap.size := ⟨hne5, by simp⟩
  clear his HB5 HI5 HS5 hn6 hne5
  obtain ⟨c0, c1, c2, c3⟩ := Sig4.cells (T := 49) HS6.out
  go_wp2_with fail
  clear c0 c1 c2 c3
  generalize (w5.alloc (.cells #[.int .i64 (s : Int), .int .i64 ((k : Int) + 1), .int .i64 (m : Int), .slice at' n ct] 49)) = w6 at *
  generalize w5.heap.size = S2 at *
  obtain ⟨b1, y1, g1, o1, ev1, -, -, ha1, hat1⟩ := HI6.out.at
  obtain ⟨b2, y2, g2, o2, ev2, -, -, ha2, hat2⟩ := HJ6.out.at
  rw [hml] at ev1 ha1
  rw [hml'] at ev2 ha2
  injection ev1 with x1 x2 x3
  injection ev2 with z1 z2 z3
  subst x1 x3 z1 z3
  have Hat1 := hide hat1
  have Hat2 := hide hat2
  have Ha1 := hide ha1
  have Ha2 := hide ha2
  clear x2 z2 hat1 hat2 ha1 ha2
  go_loopw [57] (fun j wr => ∃ i, j = .int .i64 ((i : Nat) : Int) ∧ i ≤ n ∧ Below w6.heap.size w6 wr) (fun j _ => n - (intOf j).toNat)
  case atStart => exact ⟨0, rfl, Nat.zero_le _, Below.refl _ _⟩
  case round =>
    obtain ⟨i, rfl, hi, hW⟩ := hrel
    have HW := hide hW
    have HX1 := hide (below_blk hW (by omega) HS6.out)
    have HX2 := hide (below_blk hW hne6.2 HR6.out)
    have hwr : w6.heap.size ≤ wr.heap.size := hW.size
    clear hW
    by_cases hlt : i < n
    · obtain ⟨hA1, hA2⟩ := HAt.out i hlt
      obtain ⟨hbok1, hr1⟩ := Hat1.out i _ hA1
      obtain ⟨hbok2, hr2⟩ := Hat2.out i _ hA2
      have HR1 := hide (fun u (hu : Below w6.heap.size w6 u) => range_below hr1 hu)
      have HR2 := hide (range_below hr2 HW.out)
      have ea1 := Ha1.out (by omega)
      have ea2 := Ha2.out (by omega)
      subst ea1 ea2
      clear hr1 hr2 hA1 hA2
      have hset := blkC_set .u32 (wkN (piece D s i)) k (sha (piece D s i)) (sha_len _) (by omega)
      obtain ⟨W, hW⟩ : ∃ W, W = wkN (piece D s i) := ⟨_, rfl⟩
      obtain ⟨X, hX⟩ : ∃ X, X = sha (piece D s i) := ⟨_, rfl⟩
      unfold blkOf at hbok1 hbok2 HR1 HR2
      rw [← hW, ← hX] at hset
      rw [← hW, ← hX] at hbok1 HR1
      rw [← hW, ← hX] at hbok2 HR2
      clear hW hX
      obtain ⟨b, hb⟩ : ∃ b, b = (⟨W, cutL k X⟩ : Blk) := ⟨_, rfl⟩
      obtain ⟨b', hb'⟩ : ∃ b', b' = (⟨W, cutL (k + 1) X⟩ : Blk) := ⟨_, rfl⟩
      rw [← hb] at hset hbok1 HR1
      rw [← hb'] at hset hbok2 HR2
      clear hb hb'
      have Hset := hide hset
      clear hset
      have d4 : decide ((i : Int) < (n : Int)) = true := by simpa using hlt
      have i1 : (0 : Int) ≤ (i : Int) := by omega
      have i2 : (i : Int) < (n : Int) := by omega
      have k1 : (0 : Int) ≤ (k : Int) := by omega
      have k2 : (k : Int) < 32 := by omega
      have hsz : (blkC .u32 b).length = 33 := blkC_length hbok1
      have hsz' : (blkC .u32 b').length = 33 := blkC_length hbok2
      obtain ⟨c0, c1, c2, c3⟩ := Sig4.cells (T := 49) HX2.out
      go_wp2_with (first
        | (refine wpList_load_part rfl 81 (.tmp 63) rfl g2 (o2 + i * 33) (blkC .u32 b') rfl HR2.out _ Tryd.underlying81 rfl (by rw [hsz']; kernel_rfl) ?_)
        | (refine wpList_store_all rfl 81 (.tmp 12) (.tmp 64) rfl wr.heap.size (blkC .u32 b').toArray _ 81 rfl rfl (heap_last _ _) (by rw [List.size_toArray, hsz']; rfl) (by rw [List.size_toArray, hsz']; kernel_rfl) (all_oneCell_toArray (blkC_one _ _)) ?_))
      intro wa HBa HGa
      refine of_hid ?_
      have hba : Below wr.heap.size wr wa := belowG (below_new wr (.cells (blkC .u32 ⟨0, zeros 32⟩).toArray 81)) HGa.out (Nat.le_refl _) (below_new wr (.cells (blkC .u32 ⟨0, zeros 32⟩).toArray 81)).size
      have HXa1 := hide (below_blk hba (by omega) HX1.out)
      have HWa := hide (keepB hba (Nat.le_refl _) HW.out)
      have hla := heap_lt HBa.out
      clear hba HGa HX1 HX2 HW HR2 c0 c1 c2 c3
      generalize wr.heap.size = B at *
      have cy : wa.cell? ⟨B, 1 + k, none⟩ = some (.int .u8 ((b'.s.getD k 0 : Nat) : Int)) := blk_cell HBa.out (by
        have hk3 : k < b'.s.length := by rw [hbok2.2.1]; omega
        simp only [List.getElem?_toArray, blkC, Nat.add_comm 1 k, List.getElem?_cons_succ]
        unfold b8
        rw [List.getElem?_map, List.getElem?_eq_getElem hk3]
        simp [List.getD, hk3])
      have fy := blk_free (i := 1 + k) HBa.out
      generalize b'.s.getD k 0 = old at *
      have HBb := hide (blk_set (i := 1 + k) HBa.out (.int .u8 0))
      rw [Hset.out] at HBb
      have HWb := hide (HWa.out.setCell (p := ⟨B, 1 + k, none⟩) (by simp; omega) (.int .u8 0))
      have HXb1 := hide (below_blk HWb.out (by omega) HS6.out)
      clear HBa HWa HXa1 Hset
      have hq' := fun u => blk_eq b b hbok1 hbok1 u
      rw [show decide (b = b) = true by simp] at hq'
      have hmg : Tryd.prog.eqGuardType Tryd.prog.depth 81 = false := by kernel_rfl
      go_wp2_with fail
      generalize (wa.setCell ⟨B, 1 + k, none⟩ (.int .u8 0)) = wb at *
      clear cy fy
      refine wp_region_keep (fun u => u.heap[S1]? = some (.cells #[.int .i64 (s : Int), .int .i64 (k : Int), .int .i64 (m : Int), .slice (some ⟨g1, o1, none⟩) n cv] 49 (0, 0)) ∧ u.heap[B]? = some (.cells (blkC .u32 b).toArray 81 (0, 0)) ∧ Below w6.heap.size w6 u) (by kernel_rfl) (by kernel_rfl) ⟨HXb1.out, HBb.out, HWb.out.drew⟩ ?_
      repeat (first
        | (refine keep_step (v := .agg (blkC .u32 b).toArray) (by rfl) (fun u K hS hK => kUpon_load_mid 81 (.tmp 71) rfl g1 (o1 + i * 33) _ rfl (run_loadVar_mid (P := Tryd.prog) u g1 (o1 + i * 33) 81 (blkC .u32 b) _ (HR1.out u hS.2.2) Tryd.underlying81 rfl (by rw [hsz]; kernel_rfl)) (hK _ hS)) ?_
           simp only [Act.put, List.setIfInBounds_toArray, List.set_cons_zero, List.set_cons_succ])
        | (refine keep_step (v := .agg (blkC .u32 b).toArray) (by rfl) (fun u K hS hK => kUpon_load_mid 81 (.tmp 12) rfl B 0 _ rfl (run_loadVar_mid (P := Tryd.prog) u B 0 81 (blkC .u32 b) _ (range_all hS.2.1) Tryd.underlying81 rfl (by rw [hsz]; kernel_rfl)) (hK _ hS)) ?_
           simp only [Act.put, List.setIfInBounds_toArray, List.set_cons_zero, List.set_cons_succ])
        | (refine keep_step (v := ?_) (by rfl) (fun u K hS hK => ?_) ?_
           rotate_left
           · obtain ⟨c0, c1, c2, c3⟩ := Sig4.cells (T := 49) hS.1
             (go_simp; with_reducible exact hK _ hS)
           simp only [Act.put, List.setIfInBounds_toArray, List.set_cons_zero, List.set_cons_succ]))
      refine keep_nil (fun wA hSA => ?_)
      have HSA := hide hSA.2.2
      clear hSA hq' hmg HXb1 HBb HWb HR1
      go_wp2
      go_roundw
      case rel => exact ⟨i + 1, by go_num, by omega, HSA.out⟩
      case measure => simp [intOf]; omega
    · obtain rfl : i = n := by omega
      have d4 : decide ((i : Int) < (i : Int)) = false := by simp
      have hp1 := HP1.out wr cv av (HI6.out.below HW.out)
      unfold sigV at hp1
      have HP1w := hide hp1
      clear hp1 HP1 Hat1 Hat2 Ha1 Ha2 HAt
      obtain ⟨c0, c1, c2, c3⟩ := Sig4.cells (T := 49) HX1.out
      go_wp2_with fail
      refine HP1w.out.mono ?_
      rintro e wp ⟨vp, rfl, hbf, hbp⟩
      have HWp := hide (keepB hbp (Nat.le_refl _) HW.out)
      obtain ⟨ap, cp, rfl, -, hcp, hcpm, -⟩ := hbf.form
      have HX1p := hide (below_blk HWp.out (by omega) HS6.out)
      have HX2p := hide (below_blk HWp.out hne6.2 HR6.out)
      have hp2 := HP2.out wp ct at' (HJ6.out.below HWp.out)
      unfold sigV at hp2
      have HP2w := hide hp2
      clear hp2 hbf hbp HP1w HP2 HX1 HX2 HW c0 c1 c2 c3
      obtain ⟨l1, hl1⟩ : ∃ l1, l1 = (sigL s k m bs).length := ⟨_, rfl⟩
      rw [← hl1] at Hlen Htop hcp ⊢
      clear hl1
      have hl2 := Htop.out
      obtain ⟨c0, c1, c2, c3⟩ := Sig4.cells (T := 49) HX2p.out
      go_wp2_with fail
      refine HP2w.out.mono ?_
      rintro e wq ⟨vq, rfl, hbf, hbq⟩
      obtain ⟨aq, cq, rfl, -, hcq, hcqm, -⟩ := hbf.form
      have HWq := hide (keepB hbq (Nat.le_refl _) HWp.out)
      rw [Hlen.out] at hcq ⊢
      have HX1q := hide (below_blk HWq.out (by omega) HS6.out)
      have HX2q := hide (below_blk HWq.out hne6.2 HR6.out)
      have HBq := hide (keepB HWq.out (Nat.le_refl _) HB6.out)
      clear hbf hbq HP2w HX1p HX2p HWp HWq c0 c1 c2 c3
      obtain ⟨c0, c1, c2, c3⟩ := Sig4.cells (T := 49) HX1q.out
      obtain ⟨e0, e1, e2, e3⟩ := Sig4.cells (T := 49) HX2q.out
      have q1 : ((i : Int) == (i : Int)) = true := by simp
      have q2 : ((l1 + i : Nat) : Int) - (l1 : Int) = (i : Int) := by omega
      have q3 : (l1 : Int) + (i : Int) - (l1 : Int) = (i : Int) := by omega
      go_wp2
      go_ret
      exact ⟨rfl, HBq.out⟩
theorem fits_cut {x : Int} {m k : Nat} (hm : m ≤ 200) (hk : k ≤ 31) : (fitsE x (k : Int) m = 0 ∧ fitsE x ((k + 1 : Nat) : Int) m = 0) ∨ (fitsE x (k : Int) m = 1 ∧ fitsE x ((k + 1 : Nat) : Int) m = 1) := by
  have h : ∀ l : Nat, l ≤ 32 → ¬ (x < 1 ∨ 4096 < x) → fitsE x (l : Int) m = 0 := by
    intro l hl hx
    unfold fitsE
    rw [if_neg (by omega), if_neg]
    unfold cntZ
    rw [if_neg (by omega)]
    have h1 : (m : Int) / x ≤ m := Int.ediv_le_self x (by omega)
    have h2 : (0 : Int) ≤ (m : Int) / x := Int.ediv_nonneg (by omega) (by omega)
    split <;> omega
  by_cases hx : x < 1 ∨ 4096 < x
  · right
    constructor <;> (unfold fitsE; rw [if_pos (by omega)])
  · exact .inl ⟨h k (by omega) hx, h (k + 1) (by omega) hx⟩
theorem walk_any (a : Option Addr) (m c : Nat) (D : List Nat) (x y : Int) (w : World) (hs : SrcB w a m D) (hc : m ≤ c) (hcm : c ≤ 9223372036854775807) (hT : Tbl w) (hF : Fst w) :
    Calls Tryd.prog 6 #[.slice a m c, .int .i64 x, .int .i64 y] w fun e w' => e = .returned (.bool true) ∧ Below w.heap.size w w' := by
  by_cases hg : 200 < m ∨ y < 0 ∨ 31 < y
  · exact out_walk a m c x y w hT hF hg
  · obtain ⟨k, rfl⟩ := Int.eq_ofNat_of_zero_le (show 0 ≤ y by omega)
    rcases fits_cut (x := x) (show m ≤ 200 by omega) (show k ≤ 31 by omega) with ⟨hf, hf'⟩ | ⟨hf, hf'⟩
    · have hz := fitsE_zero hf
      obtain ⟨s, rfl⟩ := Int.eq_ofNat_of_zero_le (show 0 ≤ x by omega)
      obtain ⟨n, hn⟩ : ∃ n : Nat, cntZ (m : Int) (s : Int) = (n : Int) := ⟨(cntZ (m : Int) (s : Int)).toNat, by have := cntZ_nonneg (m : Int) (s : Int); omega⟩
      exact in_walk a m c D s k n w hs hc hcm hT hF (by omega) (by omega) hf hf' hn
    · exact bad_walk a m c x k w hT hF (by omega) (by omega) hf hf'
end Go.Proofs.YtifepgigkmhdaaaDoor.BlockCutsW
