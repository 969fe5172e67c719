/- AuthOwn's walk. -/
import Derived.Test.YtifepgigkmhdaaaDoorPk
namespace Go.Proofs.YtifepgigkmhdaaaDoor.AuthOwnW
set_option linter.unusedVariables false
set_option linter.unusedSimpArgs false
set_option maxRecDepth 100000
open Go.ChangeShapes Go.WideShapes Go.ChangeAt Go.RowKit
open Go.Proofs.YtifepgigkmhdaaaDoor.Wu Go.Proofs.YtifepgigkmhdaaaDoor.Sm Go.Proofs.YtifepgigkmhdaaaDoor.Sh Go.Proofs.YtifepgigkmhdaaaDoor.Ba Go.Proofs.YtifepgigkmhdaaaDoor.Bp Go.Proofs.YtifepgigkmhdaaaDoor.Bs Go.Proofs.YtifepgigkmhdaaaDoor.Ab Go.Proofs.YtifepgigkmhdaaaDoor.Rk Go.Proofs.YtifepgigkmhdaaaDoor.Rx Go.Proofs.YtifepgigkmhdaaaDoor.Ac Go.Proofs.YtifepgigkmhdaaaDoor.Ad Go.Proofs.YtifepgigkmhdaaaDoor.Ae Go.Proofs.YtifepgigkmhdaaaDoor.Af
open Go.Proofs.YtifepgigkmhdaaaDoor.Sn (Fst fst_keep)
open Go.Proofs.YtifepgigkmhdaaaDoor.Sxa (Tbl tbl_keep)
open Go.Proofs.YtifepgigkmhdaaaDoor.Smc (macL)
attribute [local go_sem] kUpon_value kUpon_skip kUpon_enter
/-- What the law lays first. -/
structure OB (w : World) (mo : Array Value) (X : List Nat) (u : World) : Prop where
  below : Below w.heap.size w u
  mod : u.heap[w.heap.size]? = some (.cells mo 104 (0, 0))
  non : u.heap[w.heap.size + 1]? = some (.cells (u8s X) 98 (0, 0))
theorem OB.up {w : World} {mo : Array Value} {X : List Nat} {u u' : World} (h : OB w mo X u) (hb : Below u.heap.size u u') : OB w mo X u' :=
  ⟨keepB hb (Nat.le_refl _) h.below, below_blk hb (heap_lt h.mod) h.mod, below_blk hb (heap_lt h.non) h.non⟩
theorem OB.kept {w : World} {mo : Array Value} {X : List Nat} {u u' : World} {k : Nat} (h : OB w mo X u) (hg : u.grownBy u' (some k)) (hk : w.heap.size + 1 < k) : OB w mo X u' :=
  ⟨belowG h.below hg (by omega) h.below.size, keepG hg (by omega) h.mod, keepG hg (by omega) h.non⟩
theorem OB.start (w : World) (mo : Array Value) (X : List Nat) : OB w mo X ((w.alloc (.cells mo 104)).alloc (.cells (u8s X) 98)) :=
  ⟨((Below.refl w.heap.size w).alloc (Nat.le_refl _) _).alloc (by simp) _, heap_2a _ _ _, heap_2b _ _ _⟩
set_option maxHeartbeats 1600000 in
theorem out_walk (n r : ByteArray) (bw : Bool) (sl qu : Int) (a : Option Addr) (m c : Nat) (X : List Nat) (at_ : Int) (w : World) (hT : Tbl w) (hF : Fst w) (hg : 10 < m ∨ 100 < n.size) :
    Calls Tryd.prog 11 #[modV n r bw sl qu a m c, .agg (u8s X), .int .i64 at_] w fun e w' => e = .returned (.bool true) ∧ Below w.heap.size w w' := by
  have hst := OB.start w #[.string n, .string r, .bool bw, .int .i64 sl, .int .i64 qu, .slice a m c] X
  have H0 := hide hst
  have HH := hide (lets_c _ (tbl_keep hT hst.below (Nat.le_refl _)) (fst_keep hF hst.below (Nat.le_refl _)))
  clear hT hF hst
  obtain ⟨p, hp⟩ : ∃ p, n.size = p := ⟨_, rfl⟩
  rw [hp] at hg
  unfold modV
  have hc : 10 < m ∨ (¬ 10 < m ∧ 100 < p) := by omega
  clear hg
  rcases hc with h1 | ⟨h1, h2⟩
  · have d1 : decide ((10 : Int) < (m : Int)) = true := by simp; omega
    have d1' : decide (10 < m) = true := by simp; omega
    clear h1
    go_enter Tryd.func11, Tryd.ntmps11
    go_wp2_with fail
    generalize ((w.alloc (.cells #[.string n, .string r, .bool bw, .int .i64 sl, .int .i64 qu, .slice a m c] 104)).alloc (.cells (u8s X) 98)) = w0 at *
    refine HH.out.mono ?_
    rintro e w1 ⟨rfl, hb1⟩
    have H1 := hide (H0.out.up hb1)
    clear hb1 HH H0
    have c0 := blk_cell (i := 0) H1.out.mod rfl
    have c5 := blk_cell (i := 5) H1.out.mod rfl
    go_wp2
    go_ret
    exact ⟨rfl, H1.out.below⟩
  · have d1 : decide ((10 : Int) < (m : Int)) = false := by simp; omega
    have d1' : decide (10 < m) = false := by simp; omega
    have d2 : decide ((100 : Int) < (p : Int)) = true := by simp; omega
    have d2' : decide (100 < p) = true := by simp; omega
    clear h1 h2
    go_enter Tryd.func11, Tryd.ntmps11
    go_wp2_with fail
    generalize ((w.alloc (.cells #[.string n, .string r, .bool bw, .int .i64 sl, .int .i64 qu, .slice a m c] 104)).alloc (.cells (u8s X) 98)) = w0 at *
    refine HH.out.mono ?_
    rintro e w1 ⟨rfl, hb1⟩
    have H1 := hide (H0.out.up hb1)
    clear hb1 HH H0
    have c0 := blk_cell (i := 0) H1.out.mod rfl
    have c5 := blk_cell (i := 5) H1.out.mod rfl
    go_wp2
    go_ret
    exact ⟨rfl, H1.out.below⟩
/-- Each user is found by their name. -/
theorem found_self {us : List (ByteArray × ByteArray)} {k : Nat} {n s : ByteArray} (h : us[k]? = some (n, s)) : ∃ u, us.find? (named n) = some u := by
  cases hf : us.find? (named n) with
  | some u => exact ⟨u, rfl⟩
  | none =>
    have := List.find?_eq_none.1 hf _ (List.mem_of_getElem? h)
    exact absurd (by simp [named]) this
theorem set_ne (Y : List Nat) (i x : Nat) (hi : i < Y.length) (hx : x ≠ Y.getD i 0) : Y.set i x ≠ Y := by
  intro h
  have h1 : (Y.set i x).getD i 0 = x := by simp [List.getD, hi]
  rw [h] at h1
  exact hx h1.symm
theorem xor_one_ne (x : Nat) : x ^^^ 1 ≠ x := by
  intro h
  have h2 := congrArg (fun z => x ^^^ z) h
  simp only [Nat.xor_self] at h2
  rw [← Nat.xor_assoc, Nat.xor_self, Nat.zero_xor] at h2
  cases h2
set_option maxHeartbeats 3200000 in
theorem in_walk (M : List Nat) (r : ByteArray) (bw : Bool) (sl qu : Int) (a : Option Addr) (m c : Nat) (us : List (ByteArray × ByteArray)) (X : List Nat) (at_ : Int) (w : World) (hu : IsUs w a m c us) (hM : All8 M) (hXl : X.length = 16) (hX : All8 X) (hT : Tbl w) (hF : Fst w) (h1 : m ≤ 10) (h2 : M.length ≤ 100) :
    Calls Tryd.prog 11 #[modV (strN M) r bw sl qu a m c, .agg (u8s X), .int .i64 at_] w fun e w' => e = .returned (.bool true) ∧ Below w.heap.size w w' := by
  have hst := OB.start w #[.string (strN M), .string r, .bool bw, .int .i64 sl, .int .i64 qu, .slice a m c] X
  have H0 := hide hst
  have HH := hide (lets_c _ (tbl_keep hT hst.below (Nat.le_refl _)) (fst_keep hF hst.below (Nat.le_refl _)))
  have HTF := hide (fun (u : World) (hb : Below w.heap.size w u) => (⟨tbl_keep hT hb (Nat.le_refl _), fst_keep hF hb (Nat.le_refl _)⟩ : Tbl u ∧ Fst u))
  have HU := hide hu
  have Hin := hide (⟨hM, hXl, hX, h2⟩ : All8 M ∧ X.length = 16 ∧ All8 X ∧ M.length ≤ 100)
  obtain ⟨hlen, hmc, hcm, g, off, ha, hcell⟩ := hu
  have HL := hide hlen
  have HC := hide (fun i n s (h : us[i]? = some (n, s)) (u : World) (hb : Below w.heap.size w u) => (⟨keepC hb (Nat.le_refl _) (hcell i n s h).1, keepC hb (Nat.le_refl _) (hcell i n s h).2⟩ : _ ∧ _))
  have HSec := hide (fun (nm : ByteArray) (u : World) (hb : Below w.heap.size w u) => secret_c (strN M) r nm bw sl qu a m c us u (HU.out.below hb))
  have e1 := strN_size M
  clear hT hF hst hXl hX hlen hcell
  obtain ⟨p, hp⟩ : ∃ p, p = M.length := ⟨_, rfl⟩
  rw [← hp] at e1 h2
  obtain ⟨SM, hSM⟩ : ∃ SM, SM = strN M := ⟨_, rfl⟩
  have HSM := hide hSM
  rw [← hSM] at H0 HH HSec e1 ⊢
  clear hp hSM hM
  unfold modV at HSec ⊢
  have d1 : decide ((10 : Int) < (m : Int)) = false := by simp; omega
  have d1' : decide (10 < m) = false := by simp; omega
  have d2 : decide ((100 : Int) < (p : Int)) = false := by simp; omega
  have d2' : decide (100 < p) = false := by simp; omega
  go_enter Tryd.func11, Tryd.ntmps11
  go_wp2_with fail
  generalize ((w.alloc (.cells #[.string SM, .string r, .bool bw, .int .i64 sl, .int .i64 qu, .slice a m c] 104)).alloc (.cells (u8s X) 98)) = w0 at *
  refine HH.out.mono ?_
  rintro e w1 ⟨rfl, hb1⟩
  have H1 := hide (H0.out.up hb1)
  clear hb1 HH H0
  have c0 := blk_cell (i := 0) H1.out.mod rfl
  have c5 := blk_cell (i := 5) H1.out.mod rfl
  go_wp2_with fail
  clear c0 c5 d1 d1' d2 d2'
  go_loopw [27] (fun j wr => ∃ k, j = .int .i64 ((k : Nat) : Int) ∧ k ≤ m ∧ OB w #[.string SM, .string r, .bool bw, .int .i64 sl, .int .i64 qu, .slice a m c] X wr) (fun j _ => m - (intOf j).toNat)
  case atStart => exact ⟨0, rfl, Nat.zero_le _, H1.out⟩
  case round =>
    clear H1
    obtain ⟨k, rfl, hk, hob⟩ := hrel
    have H1 := hide hob
    clear hob
    by_cases hlt : k < m
    · obtain ⟨⟨n, s⟩, hks⟩ : ∃ u, us[k]? = some u := ⟨us[k]'(by rw [HL.out]; exact hlt), by rw [List.getElem?_eq_getElem]⟩
      obtain ⟨u0, s0⟩ := HC.out k n s hks wr H1.out.below
      obtain ⟨⟨n', s'⟩, hf⟩ := found_self hks
      have HV : Hid (secV us n = .tuple #[.string s', .bool true]) := hide (by unfold secV; rw [hf])
      have HF := hide hf
      obtain rfl := ha (by omega)
      clear hks ha hf
      have d1 : decide ((k : Int) < (m : Int)) = true := by simpa using hlt
      have i1 : (0 : Int) ≤ (k : Int) := by omega
      have i2 : (k : Int) < (m : Int) := by omega
      have H2 := hide (H1.out.up (below_new wr (.cells #[.string n, .string s] 109)))
      have HN2 := hide (heap_last wr (.cells #[.string n, .string s] 109))
      have hs1 := heap_lt H1.out.non
      have hS := HSec.out n _ H2.out.below
      rw [HV.out] at hS
      have HS := hide hS
      clear hS HV H1
      have c0 : (wr.alloc (.cells #[.string n, .string s] 109)).cell? ⟨w.heap.size, 0, none⟩ = some (.string SM) := blk_cell (i := 0) H2.out.mod rfl
      have c1 : (wr.alloc (.cells #[.string n, .string s] 109)).cell? ⟨w.heap.size, 1, none⟩ = some (.string r) := blk_cell (i := 1) H2.out.mod rfl
      have c2 : (wr.alloc (.cells #[.string n, .string s] 109)).cell? ⟨w.heap.size, 2, none⟩ = some (.bool bw) := blk_cell (i := 2) H2.out.mod rfl
      have c3 : (wr.alloc (.cells #[.string n, .string s] 109)).cell? ⟨w.heap.size, 3, none⟩ = some (.int .i64 sl) := blk_cell (i := 3) H2.out.mod rfl
      have c4 : (wr.alloc (.cells #[.string n, .string s] 109)).cell? ⟨w.heap.size, 4, none⟩ = some (.int .i64 qu) := blk_cell (i := 4) H2.out.mod rfl
      have c5 : (wr.alloc (.cells #[.string n, .string s] 109)).cell? ⟨w.heap.size, 5, none⟩ = some (.slice (some ⟨g, off, none⟩) m c) := blk_cell (i := 5) H2.out.mod rfl
      go_wp2_with fail
      clear c0 c1 c2 c3 c4 c5 u0 s0
      generalize (wr.alloc (.cells #[.string n, .string s] 109)) = w2 at *
      generalize wr.heap.size = UB at *
      refine HS.out.mono ?_
      rintro e w3 ⟨rfl, hb3⟩
      have H3 := hide (H2.out.up hb3)
      have HN3 := hide (below_blk hb3 (heap_lt HN2.out) HN2.out)
      clear hb3 HS H2 HN2
      obtain ⟨z, hz⟩ : ∃ z, s'.size = z := ⟨_, rfl⟩
      by_cases hz2 : 200 < z
      · have d3 : decide ((200 : Int) < (z : Int)) = true := by simp; omega
        have d3' : decide (200 < z) = true := by simp; omega
        clear hz2
        go_wp2
        go_ret
        exact ⟨rfl, H3.out.below⟩
      · have d3 : decide ((200 : Int) < (z : Int)) = false := by simp; omega
        have d3' : decide (200 < z) = false := by simp; omega
        obtain ⟨hM, hXl, hX, hMl⟩ := Hin.out
        obtain ⟨S, hS⟩ : ∃ S, S = s'.data.toList.map UInt8.toNat := ⟨_, rfl⟩
        have hS8 : All8 S := by rw [hS]; exact nums8 s'
        have hSl : S.length ≤ 1000 := by rw [hS, nums_len, hz]; omega
        have hss : s' = strN S := by rw [hS]; exact strN_self s'
        obtain ⟨Y, hY⟩ : ∃ Y, Y = macL S (X ++ M) := ⟨_, rfl⟩
        have hYl : Y.length = 32 := by rw [hY]; rfl
        have HYl := hide hYl
        have HY8 : Hid (All8 Y) := hide (by rw [hY]; exact all8_sha _)
        have HXl := hide hXl
        have hA := ans_c S M X w3 hS8 hM hX hXl hSl (by omega) (HTF.out w3 H3.out.below).1 (HTF.out w3 H3.out.below).2
        rw [← hY, ← hss, ← HSM.out] at hA
        have HA := hide hA
        have hch : ∀ Z, chkE us n M X Z = if Z = Y then 0 else 140 := fun Z => by
          unfold chkE
          rw [HF.out, hY, hS]
        have HCk := hide (fun (u : World) (Z : List Nat) (hZ : Z.length = 32) (hb : Below w.heap.size w u) => check_f M r n bw sl qu _ m c us X Z u (HU.out.below hb) hM (by omega) hX hXl hZ (fun x hx => by rw [HF.out] at hx; injection hx with hx; subst hx; show s'.size ≤ 1000; omega) (HTF.out u hb).1 (HTF.out u hb).2)
        rw [← HSM.out] at HCk
        unfold modV at HCk
        have HCh := hide hch
        clear hM hXl hX hMl hS hS8 hSl hss hY hYl hA hch hz2
        have c0 := blk_cell (i := 0) H3.out.mod rfl
        have c1 := blk_cell (i := 1) H3.out.mod rfl
        have c2 := blk_cell (i := 2) H3.out.mod rfl
        have c3 := blk_cell (i := 3) H3.out.mod rfl
        have c4 := blk_cell (i := 4) H3.out.mod rfl
        have c5 := blk_cell (i := 5) H3.out.mod rfl
        go_wp2_with (refine Rw.wpList_load_allw (by rfl) 98 (.tmp 4) rfl (w.heap.size + 1) (u8s X) _ (0, 0) rfl H3.out.non _ Tryd.underlying98 rfl (by rw [infoN, u8s_size, HXl.out]) ?_)
        refine HA.out.mono ?_
        rintro e w4 ⟨rfl, hb4⟩
        have H4 := hide ((H3.out.up hb4).up (below_new w4 (.cells (u8s (zeros 32)) 79)))
        have HN4 := hide (heap_old (below_blk hb4 (heap_lt HN3.out) HN3.out) (.cells (u8s (zeros 32)) 79))
        have Hz5 := hide (heap_last w4 (.cells (u8s (zeros 32)) 79))
        have hUB : UB < w4.heap.size := heap_lt (below_blk hb4 (heap_lt HN3.out) HN3.out)
        have hOB : w.heap.size + 1 < w4.heap.size := heap_lt (below_blk hb4 (heap_lt H3.out.non) H3.out.non)
        clear hb4 H3 HN3 HA c0 c1 c2 c3 c4 c5
        go_wp2_with (refine wpList_store_whole rfl 79 (.tmp 11) (.tmp 52) rfl w4.heap.size Y (zeros 32) 79 rfl rfl Hz5.out HYl.out (by rw [infoS, HYl.out]) ?_)
        rw [zlit]
        intro w5 H5 HG5
        refine of_hid ?_
        have HO5 := hide (H4.out.kept HG5.out hOB)
        have HN5 := hide (keepG HG5.out (by omega) HN4.out)
        clear HG5 H4 HN4 Hz5
        generalize w4.heap.size = SB at *
        have hk5 := HCk.out w5 Y HYl.out HO5.out.below
        rw [HCh.out, if_pos rfl] at hk5
        have HK5 := hide hk5
        clear hk5
        have c0 := blk_cell (i := 0) HO5.out.mod rfl
        have c1 := blk_cell (i := 1) HO5.out.mod rfl
        have c2 := blk_cell (i := 2) HO5.out.mod rfl
        have c3 := blk_cell (i := 3) HO5.out.mod rfl
        have c4 := blk_cell (i := 4) HO5.out.mod rfl
        have c5 := blk_cell (i := 5) HO5.out.mod rfl
        have un := blk_cell (i := 0) HN5.out rfl
        go_wp2_with (first
          | (refine Rw.wpList_load_allw (by rfl) 98 (.tmp 4) rfl (w.heap.size + 1) (u8s X) _ (0, 0) rfl HO5.out.non _ Tryd.underlying98 rfl (by rw [infoN, u8s_size, HXl.out]) ?_)
          | (refine Rw.wpList_load_allw (by rfl) 79 (.tmp 11) rfl SB (u8s Y) _ (0, 0) rfl H5.out _ Tryd.underlying79 rfl (by rw [infoS, u8s_size, HYl.out]) ?_))
        refine HK5.out.mono ?_
        rintro e w6 ⟨rfl, hb6⟩
        have HO6 := hide (HO5.out.up hb6)
        have HN6 := hide (below_blk hb6 (heap_lt HN5.out) HN5.out)
        have H6 := hide (below_blk hb6 (heap_lt H5.out) H5.out)
        clear hb6 HO5 HN5 H5 HK5 c0 c1 c2 c3 c4 c5 un
        by_cases hat : 0 ≤ at_ ∧ at_ < 32
        · obtain ⟨i, rfl⟩ := Int.eq_ofNat_of_zero_le hat.1
          have hi : i < 32 := by omega
          have d4 : decide (0 ≤ (i : Int)) = true := by simp
          have d5 : decide ((i : Int) < 32) = true := by simp; omega
          have j0 : (0 : Int) ≤ (i : Int) := by omega
          have j1 : (i : Int) < 32 := by omega
          have cy := row8 (i := i) H6.out (by rw [HYl.out]; exact hi)
          have fy := blk_free (i := i) H6.out
          obtain ⟨y, hy⟩ : ∃ y, y = Y.getD i 0 := ⟨_, rfl⟩
          rw [← hy] at cy
          have hyb : y < 256 := by rw [hy]; exact all8_getD HY8.out i
          have hxo := Sy.xor_u8 y 1 hyb (by omega)
          have Hset := hide (blk_set (i := i) H6.out (.int .u8 ((y ^^^ 1 : Nat) : Int)))
          rw [u8s_set] at Hset
          have hgr := grown_setCell (World.grownBy.refl w6 (some SB)) i (.int .u8 ((y ^^^ 1 : Nat) : Int))
          have HO7 := hide (HO6.out.kept hgr hOB)
          have HN7 := hide (keepG hgr (by omega) HN6.out)
          have HYn := hide (set_ne Y i (y ^^^ 1) (by rw [HYl.out]; exact hi) (by rw [← hy]; exact xor_one_ne y))
          have HYsl : Hid ((Y.set i (y ^^^ 1)).length = 32) := hide (by rw [List.length_set]; exact HYl.out)
          clear hat hgr hy hi
          simp only [Int.cast_ofNat_Int] at hxo
          have hk7 := HCk.out _ (Y.set i (y ^^^ 1)) HYsl.out HO7.out.below
          rw [HCh.out, if_neg HYn.out] at hk7
          have HK7 := hide hk7
          clear hk7
          have c0 := blk_cell (i := 0) HO7.out.mod rfl
          have c1 := blk_cell (i := 1) HO7.out.mod rfl
          have c2 := blk_cell (i := 2) HO7.out.mod rfl
          have c3 := blk_cell (i := 3) HO7.out.mod rfl
          have c4 := blk_cell (i := 4) HO7.out.mod rfl
          have c5 := blk_cell (i := 5) HO7.out.mod rfl
          have un := blk_cell (i := 0) HN7.out rfl
          go_wp2_with (first
            | (refine Rw.wpList_load_allw (by rfl) 98 (.tmp 4) rfl (w.heap.size + 1) (u8s X) _ (0, 0) rfl HO7.out.non _ Tryd.underlying98 rfl (by rw [infoN, u8s_size, HXl.out]) ?_)
            | (refine Rw.wpList_load_allw (by rfl) 79 (.tmp 11) rfl SB (u8s (Y.set i (y ^^^ 1))) _ (0, 0) rfl Hset.out _ Tryd.underlying79 rfl (by rw [infoS, u8s_size, HYsl.out]) ?_))
          refine HK7.out.mono ?_
          rintro e w8 ⟨rfl, hb8⟩
          have HO8 := hide (HO7.out.up hb8)
          clear hb8 HO7 HN7 Hset HK7 c0 c1 c2 c3 c4 c5 un
          go_wp2
          go_roundw
          case rel => exact ⟨k + 1, by go_num, by omega, HO8.out⟩
          case measure => simp [intOf]; omega
        · have hc : at_ < 0 ∨ (¬ at_ < 0 ∧ 32 ≤ at_) := by omega
          clear hat
          rcases hc with ha1 | ⟨ha1, ha2⟩
          · have d4 : decide (0 ≤ at_) = false := by simp; omega
            clear ha1
            go_wp2
            go_roundw
            case rel => exact ⟨k + 1, by go_num, by omega, HO6.out⟩
            case measure => simp [intOf]; omega
          · have d4 : decide (0 ≤ at_) = true := by simp; omega
            have d5 : decide (at_ < 32) = false := by simp; omega
            clear ha1 ha2
            go_wp2
            go_roundw
            case rel => exact ⟨k + 1, by go_num, by omega, HO6.out⟩
            case measure => simp [intOf]; omega
    · obtain rfl : k = m := by omega
      have d1 : decide ((k : Int) < (k : Int)) = false := by simp
      go_wp2
      go_ret
      exact ⟨rfl, H1.out.below⟩
theorem walk_any (n r : ByteArray) (bw : Bool) (sl qu : Int) (a : Option Addr) (m c : Nat) (us : List (ByteArray × ByteArray)) (X : List Nat) (at_ : Int) (w : World) (hu : IsUs w a m c us) (hXl : X.length = 16) (hX : All8 X) (hT : Tbl w) (hF : Fst w) :
    Calls Tryd.prog 11 #[modV n r bw sl qu a m c, .agg (u8s X), .int .i64 at_] w fun e w' => e = .returned (.bool true) ∧ Below w.heap.size w w' := by
  by_cases hg : 10 < m ∨ 100 < n.size
  · exact out_walk n r bw sl qu a m c X at_ w hT hF hg
  · obtain ⟨M, hM, rfl, hMl⟩ := strN_of n
    exact in_walk M r bw sl qu a m c us X at_ w hu hM hXl hX hT hF (by omega) (by omega)
end Go.Proofs.YtifepgigkmhdaaaDoor.AuthOwnW
