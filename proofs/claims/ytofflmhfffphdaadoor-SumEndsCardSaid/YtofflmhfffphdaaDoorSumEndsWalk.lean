/- SumEnds's walk. -/
import Derived.Test.YtofflmhfffphdaaDoorSg
import Derived.Test.YtofflmhfffphdaaDoorSct
import Derived.Test.YtofflmhfffphdaaDoorBs
import Derived.Test.YtofflmhfffphdaaDoorRx
import Derived.Test.YtofflmhfffphdaaDoorRg
import Derived.Laws.OwnMore
import Derived.OwnWalk
namespace Go.Proofs.YtofflmhfffphdaaDoor.SumEndsW
set_option linter.unusedVariables false
set_option linter.unusedSimpArgs false
set_option maxRecDepth 100000
open Go.ChangeShapes Go.WideShapes Go.ChangeAt Go.RowKit
open Go.Proofs.YtofflmhfffphdaaDoor.Wu Go.Proofs.YtofflmhfffphdaaDoor.Sm Go.Proofs.YtofflmhfffphdaaDoor.Sk Go.Proofs.YtofflmhfffphdaaDoor.Sc Go.Proofs.YtofflmhfffphdaaDoor.Sxa Go.Proofs.YtofflmhfffphdaaDoor.Sh Go.Proofs.YtofflmhfffphdaaDoor.Sn Go.Proofs.YtofflmhfffphdaaDoor.Sw0 Go.Proofs.YtofflmhfffphdaaDoor.Sx Go.Proofs.YtofflmhfffphdaaDoor.Sw Go.Proofs.YtofflmhfffphdaaDoor.Sb Go.Proofs.YtofflmhfffphdaaDoor.Sf Go.Proofs.YtofflmhfffphdaaDoor.So Go.Proofs.YtofflmhfffphdaaDoor.Su Go.Proofs.YtofflmhfffphdaaDoor.St Go.Proofs.YtofflmhfffphdaaDoor.Sg Go.Proofs.YtofflmhfffphdaaDoor.Sv Go.Proofs.YtofflmhfffphdaaDoor.Srf Go.Proofs.YtofflmhfffphdaaDoor.Sct Go.Proofs.YtofflmhfffphdaaDoor.Sr Go.Proofs.YtofflmhfffphdaaDoor.Rk Go.Proofs.YtofflmhfffphdaaDoor.Rg
attribute [local go_sem] kUpon_value kUpon_skip kUpon_enter

theorem info_u8 : (Tryd.prog.info? 5).map (fun i => (i.zero, i.size, i.bytes)) = some (some (.int .u8 0), 1, 1) := by kernel_rfl
theorem made_row {w : World} {base g n : Nat} {e : TypeId} (h : w.ownsRow base e 1 (.slice (some ⟨g, 0, none⟩) n n) n (List.replicate n (.int .u8 0))) : w.heap[g]? = some (.cells (u8s (zeros n)) e (0, 0)) := by
  obtain ⟨h1, h2 | ⟨g', cap, cur, hv, hg, hh, h3, h4, h5, h6⟩⟩ := h
  · simp at h2
  · simp only [Value.slice.injEq, Option.some.injEq, Addr.mk.injEq] at hv
    obtain ⟨⟨rfl, -, -⟩, -, rfl⟩ := hv
    rw [hh]
    have : cur.toList = List.replicate n (.int .u8 0) := by
      rw [← h6]
      rw [List.take_of_length_le]
      simp
      omega
    unfold u8s zeros
    rw [List.map_replicate]
    show _ = some (Obj.cells (List.replicate n (.int .u8 0)).toArray e (0, 0))
    rw [← this]
def fill (n k x : Nat) : List Nat := List.replicate k x ++ List.replicate (n - k) 0
theorem fill_length (n k x : Nat) (h : k ≤ n) : (fill n k x).length = n := by simp [fill]; omega
theorem fill_step (n k x : Nat) (h : k < n) : (fill n k x).set k x = fill n (k + 1) x := by
  unfold fill
  obtain ⟨d, rfl⟩ : ∃ d, n = k + 1 + d := ⟨n - (k + 1), by omega⟩
  rw [show k + 1 + d - k = d + 1 by omega, show k + 1 + d - (k + 1) = d by omega, List.replicate_succ, List.replicate_succ']
  simp
theorem fill_all (n x : Nat) : fill n n x = List.replicate n x := by simp [fill]
theorem src_row {w : World} {g n : Nat} {M : List Nat} {T : TypeId} (h : w.heap[g]? = some (.cells (u8s M) T (0, 0))) (hl : M.length = n) (h8 : All8 M) : SrcB w (some ⟨g, 0, none⟩) n M :=
  ⟨hl, h8, g, 0, fun _ => rfl, fun i hi => by rw [Nat.zero_add]; exact row8 h (by omega)⟩
theorem load_sum {u : World} {B : Nat} {X : List Nat} {T : TypeId} (h : u.heap[B]? = some (.cells (u8s X) T (0, 0))) (hX : X.length = 32) : Sem.run Tryd.prog (loadVar 27 ⟨B, 0, none⟩) u = .ok (.agg (u8s X)) u := by
  have h4 := run_loadVar_mid (P := Tryd.prog) u B 0 27 (u8s X).toList _ (range8_all h) Tryd.underlying27 rfl (by rw [infoS]; simp [u8s_size, hX])
  rw [Array.toArray_toList] at h4
  exact h4
theorem src_cut {w : World} {a : Option Addr} {n k : Nat} {L : List Nat} (h : SrcB w a n L) (hk : k ≤ n) : SrcB w a k (L.take k) := by
  obtain ⟨hl, h8, b, off, ha, hc⟩ := h
  refine ⟨by rw [List.length_take]; omega, fun x hx => h8 x (List.mem_of_mem_take hx), b, off, fun h0 => ha (by omega), fun i hi => ?_⟩
  rw [hc i (by omega)]
  simp [List.getD, List.getElem?_take_of_lt hi]
/-- The memory in the last region: the lists of parts built so far. -/
structure T (w3 : World) (WB : Nat) (X : List Nat) (s s1 s2 : Value) (h : List Value) (u : World) : Prop where
  below : Below w3.heap.size w3 u
  one : ∀ v, h[0]? = some v → ∃ B, v = .slice (some ⟨B, 0, none⟩) 1 1 ∧ u.heap[B]? = some (.cells #[s] 31 (0, 0))
  two : ∀ v, h[1]? = some v → ∃ B, v = .slice (some ⟨B, 0, none⟩) 3 3 ∧ u.heap[B]? = some (.cells #[s1, .slice none 0 0, s2] 31 (0, 0))
theorem T.up {w3 u u' : World} {WB : Nat} {X : List Nat} {s s1 s2 : Value} {h : List Value} (t : T w3 WB X s s1 s2 h u) (hb : Below u.heap.size u u') : T w3 WB X s s1 s2 h u' :=
  ⟨keepB hb (Nat.le_refl _) t.below, fun v hv => by obtain ⟨B, e, h1⟩ := t.one v hv; exact ⟨B, e, below_blk hb (heap_lt h1) h1⟩, fun v hv => by obtain ⟨B, e, h1⟩ := t.two v hv; exact ⟨B, e, below_blk hb (heap_lt h1) h1⟩⟩
theorem parts_three {w : World} {B : Nat} {T : TypeId} {a a' : Option Addr} {m c m' c' : Nat} {L L' : List Nat} (h1 : SrcB w a m L) (hc : m ≤ c) (h2 : SrcB w a' m' L') (hc' : m' ≤ c') (hw : w.heap[B]? = some (.cells #[.slice a m c, .slice none 0 0, .slice a' m' c'] T (0, 0))) :
    Parts w (some ⟨B, 0, none⟩) [⟨a, m, c, L⟩, ⟨none, 0, 0, []⟩, ⟨a', m', c', L'⟩] := by
  refine ⟨B, 0, fun _ => rfl, fun i p hp => ?_⟩
  match i, hp with
  | 0, hp =>
    simp only [List.getElem?_cons_zero, Option.some.injEq] at hp
    subst hp
    exact ⟨blk_cell hw rfl, h1, hc⟩
  | 1, hp =>
    simp only [List.getElem?_cons_zero, List.getElem?_cons_succ, Option.some.injEq] at hp
    subst hp
    exact ⟨blk_cell (i := 1) hw rfl, ⟨rfl, (fun z hz => by cases hz), 0, 0, fun h => absurd h (by simp), fun i hi => absurd hi (by simp)⟩, Nat.le_refl _⟩
  | 2, hp =>
    simp only [List.getElem?_cons_zero, List.getElem?_cons_succ, Option.some.injEq] at hp
    subst hp
    exact ⟨blk_cell (i := 2) hw rfl, h2, hc'⟩
theorem flat_three (a a' : Option Addr) (m c m' c' p : Nat) (M : List Nat) : flat [⟨a, m, c, M.take p⟩, ⟨none, 0, 0, []⟩, ⟨a', m', c', M.drop p⟩] = M := by simp [flat]
theorem src_rest {w : World} {g n p : Nat} {M : List Nat} {T : TypeId} {A2 : Option Addr} (h : w.heap[g]? = some (.cells (u8s M) T (0, 0))) (hl : M.length = n) (h8 : All8 M) (hp : p ≤ n) (hA : A2 = if n = p then some ⟨g, 0, none⟩ else some ⟨g, p, none⟩) : SrcB w A2 (n - p) (M.drop p) :=
  ⟨by rw [List.length_drop, hl], fun z hz => h8 z (List.mem_of_mem_drop hz), g, p, fun h0 => by rw [hA, if_neg (by omega)], fun i hi => by
    rw [row8 h (by omega)]; simp [List.getD]⟩
theorem out_walk (x n at_ : Int) (w : World) (hT : Tbl w) (hF : Fst w) (hg : n < 0 ∨ 300 < n ∨ at_ < 0 ∨ n < at_) :
    Calls Tryd.prog 6 #[.int .u8 x, .int .i64 n, .int .i64 at_] w fun e w' => e = .returned (.bool true) ∧ Below w.heap.size w w' := by
  have HT := hide hT
  have HF := hide hF
  clear hT hF
  have hc : (n < 0) ∨ (¬ n < 0 ∧ 300 < n) ∨ (¬ n < 0 ∧ ¬ 300 < n ∧ at_ < 0) ∨ (¬ n < 0 ∧ ¬ 300 < n ∧ ¬ at_ < 0 ∧ n < at_) := by omega
  rcases hc with h1 | ⟨h1, h2⟩ | ⟨h1, h2, h3⟩ | ⟨h1, h2, h3, h4⟩
  all_goals
    go_enter Tryd.func6, Tryd.ntmps6
    go_wp2_with fail
    refine (known_c w HT.out HF.out).mono ?_
    rintro e w1 ⟨rfl, hb1⟩
    have HB1 := hide hb1
    clear hb1
    go_wp2
    go_ret
    exact ⟨rfl, HB1.out⟩
set_option maxHeartbeats 1600000 in
theorem in_walk (x n p : Nat) (w : World) (hT : Tbl w) (hF : Fst w) (hx : x < 256) (hn : n ≤ 300) (hp : p ≤ n) :
    Calls Tryd.prog 6 #[.int .u8 (x : Int), .int .i64 (n : Int), .int .i64 (p : Int)] w fun e w' => e = .returned (.bool true) ∧ Below w.heap.size w w' := by
  obtain ⟨i0, hi0, hz0, hz1, hz2⟩ := info_parts info_u8
  have Hi0 := hide hi0
  have Hz0 := hide hz0
  have Hz1 := hide hz1
  have Hz2 := hide hz2
  have HT := hide hT
  have HF := hide hF
  clear hi0 hz0 hz1 hz2 hT hF
  have d1 : decide ((n : Int) < 0) = false := by simp
  have d2 : decide ((300 : Int) < (n : Int)) = false := by simp; omega
  have d3 : decide ((p : Int) < 0) = false := by simp
  have d4 : decide ((n : Int) < (p : Int)) = false := by simp; omega
  go_enter Tryd.func6, Tryd.ntmps6
  go_wp2_with fail
  refine (known_c w HT.out HF.out).mono ?_
  rintro e w0 ⟨rfl, hb0⟩
  have HB0 := hide hb0
  clear hb0
  obtain ⟨w1, hrun, hown, hgrow⟩ := run_make_full (P := Tryd.prog) w0 w0.heap.size 31 5 i0 (.int .u8 0) 1 Tryd.underlying31 Hi0.out Hz0.out Hz1.out .i64 .i64 n (by rw [Hz2.out]; omega) (by unfold maxLen; omega) (Nat.le_refl _)
  have hown' : w1.ownsRow w0.heap.size 5 1 (.slice (some ⟨w0.heap.size, 0, none⟩) n n) n (List.replicate n (.int .u8 0)) := by
    have e : (madeCells (Value.int .u8 0).cells (n * 1)).toList = List.replicate n (.int .u8 0) := by
      rw [Nat.mul_one]; exact toList_madeCells_one _ n
    rw [e] at hown
    exact hown
  have HR1 := hide (made_row hown')
  have HB1 := hide ((HB0.out : Below w.heap.size w w0).grown hgrow HB0.out.size (fun k hk => by cases hk))
  clear hown hown' hgrow
  have hg0 := HB0.out.size
  go_wp2_with fail
  clear hrun
  go_loopw [31, 8] (fun i _ wr => ∃ k : Nat, k ≤ n ∧ i = .int .i64 k ∧ wr.heap[w0.heap.size]? = some (.cells (u8s (fill n k x)) 5 (0, 0)) ∧ Below w.heap.size w wr) (fun i _ _ => n - (intOf i).toNat)
  case atStart => exact ⟨0, Nat.zero_le _, rfl, by simpa [fill, zeros] using HR1.out, HB1.out⟩
  case round =>
    clear HR1 HB1
    obtain ⟨k, hk, rfl, h1, hbel⟩ := hrel
    have H1 := hide h1
    have HB := hide hbel
    clear h1 hbel
    by_cases hlt : k < n
    · have hcx := row8 (i := k) H1.out (by rw [fill_length n k x hk]; exact hlt)
      have hfx := blk_free (i := k) H1.out
      generalize (fill n k x).getD k 0 = old at *
      have e := blk_set (i := k) H1.out (.int .u8 (x : Int))
      rw [u8s_set, fill_step n k x hlt] at e
      have HS := hide e
      clear e
      go_wp2
      go_roundw
      case rel => exact ⟨k + 1, by omega, by go_num, HS.out, HB.out.setCell hg0 _⟩
      case measure => simp [intOf]; omega
    · have hkl : k = n := by omega
      subst hkl
      have h1 := H1.out
      rw [fill_all] at h1
      have HR := hide h1
      clear h1 H1
      have hM8 : All8 (List.replicate k x) := fun z hz => by rw [List.eq_of_mem_replicate hz]; exact hx
      have hMl : (List.replicate k x).length = k := List.length_replicate ..
      have HMl := hide hMl
      have HM8 := hide hM8
      generalize List.replicate k x = M at *
      clear hMl hM8
      have HS := hide (src_row HR.out HMl.out HM8.out)
      have hcv : Sem.run Tryd.prog (convert 31 9 (.slice (some ⟨w0.heap.size, 0, none⟩) k k)) wr = .ok (.string (strN M)) wr := Bs.conv_src HS.out
      go_wp2_with fail
      clear hcv
      refine (refOf_c M wr HM8.out (by rw [HMl.out]; omega)).mono ?_
      rintro e w2 ⟨rfl, hb2⟩
      have HS2 := hide (HS.out.below hb2)
      have HR2 := hide (below_blk hb2 (heap_lt HR.out) HR.out)
      have hglt := heap_lt HR2.out
      have HB2 := hide (keepB hb2 (Nat.le_refl _) HB.out)
      clear hb2 HS HB HR
      have Hq := hide (sum_same (sha M) (sha_length _))
      have HXl : Hid ((sha M).length = 32) := hide (sha_length _)
      obtain ⟨X, hX⟩ : ∃ X, X = sha M := ⟨_, rfl⟩
      have HX := hide hX
      rw [← hX] at Hq HXl ⊢
      clear hX
      have Hz := hide (heap_last w2 (.cells (u8s (zeros 32)) 27))
      have hbn := below_new w2 (.cells (u8s (zeros 32)) 27)
      have HB3 := hide (keepB hbn (Nat.le_refl _) HB2.out)
      have hw2 := HB2.out.size
      have HR2 := hide (below_blk hbn (heap_lt HR2.out) HR2.out)
      have hgw2 : w0.heap.size < w2.heap.size := hglt
      clear hbn HS2 HB2
      go_wp2_with (refine wpList_store_whole rfl 27 (.tmp 9) (.tmp 41) rfl w2.heap.size X (zeros 32) 27 rfl rfl ?_ (by rw [HXl.out, zeros_length]) (by rw [infoS, HXl.out]) ?_; rw [zlit8]; exact Hz.out)
      rw [zlit8]
      intro w3 HW3 HG3
      refine of_hid ?_
      have HR3 := hide (keepG HG3.out (by omega) HR2.out)
      have HB4 := hide (belowG HB3.out HG3.out hw2 HB3.out.size)
      have hw3 := heap_lt HW3.out
      clear Hz HR2 HB3 HG3
      generalize w2.heap.size = WB at *
      go_wp2_with fail
      obtain ⟨A2, hA2⟩ : ∃ A2 : Option Addr, A2 = if k = p then some ⟨w0.heap.size, 0, none⟩ else some ⟨w0.heap.size, p, none⟩ := ⟨_, rfl⟩
      have HA2 := hide hA2
      clear hA2
      have HC2 := hide (fun (u : World) (B : Nat) (hu : Below w3.heap.size w3 u) (hB : u.heap[B]? = some (.cells #[.slice (some ⟨w0.heap.size, 0, none⟩) p k, .slice none 0 0, .slice A2 (k - p) (k - p)] 31 (0, 0))) => of_c (some ⟨B, 0, none⟩) 3 [⟨some ⟨w0.heap.size, 0, none⟩, p, k, M.take p⟩, ⟨none, 0, 0, []⟩, ⟨A2, k - p, k - p, M.drop p⟩] u (parts_three ((src_cut (src_row HR3.out HMl.out HM8.out) hp).below hu) hp ((src_rest HR3.out HMl.out HM8.out hp HA2.out).below hu) (Nat.le_refl _) hB) (tbl_keep HT.out (keepB hu (Nat.le_refl _) HB4.out) (Nat.le_refl _)) (fst_keep HF.out (keepB hu (Nat.le_refl _) HB4.out) (Nat.le_refl _)) (by rw [flat_three, HMl.out]; omega) (by simp))
      rw [flat_three, ← HX.out] at HC2
      simp only [List.length_cons, List.length_nil, Nat.zero_add, Nat.reduceAdd] at HC2
      have HC1 := hide (fun (u : World) (B : Nat) (hu : Below w3.heap.size w3 u) (hB : u.heap[B]? = some (.cells #[.slice (some ⟨w0.heap.size, 0, none⟩) k k] 31 (0, 0))) => of_c (some ⟨B, 0, none⟩) 1 [⟨some ⟨w0.heap.size, 0, none⟩, k, k, M⟩] u (parts_one ((src_row HR3.out HMl.out HM8.out).below hu) (Nat.le_refl _) hB) (tbl_keep HT.out (keepB hu (Nat.le_refl _) HB4.out) (Nat.le_refl _)) (fst_keep HF.out (keepB hu (Nat.le_refl _) HB4.out) (Nat.le_refl _)) (by rw [flat_one, HMl.out]; omega) (by simp))
      rw [flat_one, ← HX.out] at HC1
      simp only [List.length_cons, List.length_nil, Nat.zero_add] at HC1
      refine wp_region_g (T w3 WB X (.slice (some ⟨w0.heap.size, 0, none⟩) k k) (.slice (some ⟨w0.heap.size, 0, none⟩) p k) (.slice A2 (k - p) (k - p))) [some (some (.slice (some ⟨w0.heap.size, 0, none⟩) k k)), none, some none, some (some (.agg (u8s X))), some (some (.bool true)), some (some (.bool true)), some (some (.slice (some ⟨w0.heap.size, 0, none⟩) k k)), some (some (.int .i64 (p : Int))), some (some (.slice (some ⟨w0.heap.size, 0, none⟩) p k)), some (some (.slice (some ⟨w0.heap.size, 0, none⟩) k k)), some (some (.int .i64 (p : Int))), some (some (.slice A2 (k - p) (k - p))), none, some none, some (some (.agg (u8s X))), some (some (.bool true)), some (some (.bool true)), some (some (.bool true))] (by kernel_rfl) (by kernel_rfl) [1, 12] [1, 2, 12, 13] rfl rfl (by kernel_rfl) ⟨(Below.refl _ _).drew, by simp, by simp⟩ ?_
      refine gF_step (by rfl) (fun h u K hT hK => ?_) ?_
      · go_simp
        exact hK _ hT
      simp only [Act.put, List.setIfInBounds_toArray, List.set_cons_zero, List.set_cons_succ]
      refine gD_step (fun v => ∃ B, v = .slice (some ⟨B, 0, none⟩) 1 1) ⟨_, 0, rfl⟩ (by rfl) (fun u K hT hK => ?_) (fun v1 hv1 => ?_)
      · go_simp
        have hb := below_new u (.cells #[.slice (some ⟨w0.heap.size, 0, none⟩) k k] 31)
        have hT2 := hT.up hb
        refine hK _ _ ⟨_, rfl⟩ ⟨hT2.below, fun v hv => by simp at hv; subst hv; exact ⟨_, rfl, heap_last _ _⟩, by simp⟩
      obtain ⟨B1, rfl⟩ := hv1
      simp only [Act.put, List.setIfInBounds_toArray, List.set_cons_zero, List.set_cons_succ]
      refine gG_step (v := .agg (u8s X)) (by rfl) (fun h' u K hT hK => ?_) ?_
      · obtain ⟨B, e, hB⟩ := hT.one _ rfl
        simp only [Value.slice.injEq, Option.some.injEq, Addr.mk.injEq, and_true] at e
        subst e
        go_simp
        go_at_call 16
        (with_reducible refine Calls.mono (HC1.out u _ hT.below hB) ?_)
        rintro e u2 ⟨rfl, hu⟩
        exact hK _ (hT.up hu)
      simp only [Act.put, List.setIfInBounds_toArray, List.set_cons_zero, List.set_cons_succ]
      refine gF_step (by rfl) (fun h u K hT hK => ?_) ?_
      · exact Rx.kUpon_load_mid 27 (.tmp 9) rfl WB 0 _ rfl (load_sum (below_blk hT.below (heap_lt HW3.out) HW3.out) HXl.out) (hK _ hT)
      simp only [Act.put, List.setIfInBounds_toArray, List.set_cons_zero, List.set_cons_succ]
      refine gF_step (by rfl) (fun h u K hT hK => ?_) ?_
      · have hq := Hq.out u
        go_simp
        exact hK _ hT
      simp only [Act.put, List.setIfInBounds_toArray, List.set_cons_zero, List.set_cons_succ]
      refine gF_step (by rfl) (fun h u K hT hK => ?_) ?_
      · go_simp
        exact hK _ hT
      simp only [Act.put, List.setIfInBounds_toArray, List.set_cons_zero, List.set_cons_succ]
      refine gF_step (by rfl) (fun h u K hT hK => ?_) ?_
      · go_simp
        exact hK _ hT
      simp only [Act.put, List.setIfInBounds_toArray, List.set_cons_zero, List.set_cons_succ]
      refine gF_step (by rfl) (fun h u K hT hK => ?_) ?_
      · go_simp
        exact hK _ hT
      simp only [Act.put, List.setIfInBounds_toArray, List.set_cons_zero, List.set_cons_succ]
      refine gF_step (by rfl) (fun h u K hT hK => ?_) ?_
      · go_simp
        exact hK _ hT
      simp only [Act.put, List.setIfInBounds_toArray, List.set_cons_zero, List.set_cons_succ]
      refine gF_step (by rfl) (fun h u K hT hK => ?_) ?_
      · go_simp
        exact hK _ hT
      simp only [Act.put, List.setIfInBounds_toArray, List.set_cons_zero, List.set_cons_succ]
      refine gF_step (by rfl) (fun h u K hT hK => ?_) ?_
      · go_simp
        exact hK _ hT
      simp only [Act.put, List.setIfInBounds_toArray, List.set_cons_zero, List.set_cons_succ]
      refine gF_step (by rfl) (fun h u K hT hK => ?_) ?_
      · go_simp
        rw [← HA2.out]
        exact hK _ hT
      simp only [Act.put, List.setIfInBounds_toArray, List.set_cons_zero, List.set_cons_succ]
      refine gD_step (fun v => ∃ B, v = .slice (some ⟨B, 0, none⟩) 3 3) ⟨_, 0, rfl⟩ (by rfl) (fun u K hT hK => ?_) (fun v3 hv3 => ?_)
      · go_simp
        have hb := below_new u (.cells #[.slice (some ⟨w0.heap.size, 0, none⟩) p k, .slice none 0 0, .slice A2 (k - p) (k - p)] 31)
        have hT2 := hT.up hb
        refine hK _ _ ⟨_, rfl⟩ ⟨hT2.below, fun v hv => hT2.one v (by simpa using hv), fun v hv => by simp at hv; subst hv; exact ⟨_, rfl, heap_last _ _⟩⟩
      obtain ⟨B3, rfl⟩ := hv3
      simp only [Act.put, List.setIfInBounds_toArray, List.set_cons_zero, List.set_cons_succ]
      refine gG_step (v := .agg (u8s X)) (by rfl) (fun h' u K hT hK => ?_) ?_
      · obtain ⟨B, e, hB⟩ := hT.two _ rfl
        simp only [Value.slice.injEq, Option.some.injEq, Addr.mk.injEq, and_true] at e
        subst e
        go_simp
        go_at_call 16
        (with_reducible refine Calls.mono (HC2.out u _ hT.below hB) ?_)
        rintro e u2 ⟨rfl, hu⟩
        exact hK _ (hT.up hu)
      simp only [Act.put, List.setIfInBounds_toArray, List.set_cons_zero, List.set_cons_succ]
      refine gF_step (by rfl) (fun h u K hT hK => ?_) ?_
      · exact Rx.kUpon_load_mid 27 (.tmp 9) rfl WB 0 _ rfl (load_sum (below_blk hT.below (heap_lt HW3.out) HW3.out) HXl.out) (hK _ hT)
      simp only [Act.put, List.setIfInBounds_toArray, List.set_cons_zero, List.set_cons_succ]
      refine gF_step (by rfl) (fun h u K hT hK => ?_) ?_
      · have hq := Hq.out u
        go_simp
        exact hK _ hT
      simp only [Act.put, List.setIfInBounds_toArray, List.set_cons_zero, List.set_cons_succ]
      refine gF_step (by rfl) (fun h u K hT hK => ?_) ?_
      · go_simp
        exact hK _ hT
      simp only [Act.put, List.setIfInBounds_toArray, List.set_cons_zero, List.set_cons_succ]
      refine gF_step (by rfl) (fun h u K hT hK => ?_) ?_
      · go_simp
        exact hK _ hT
      simp only [Act.put, List.setIfInBounds_toArray, List.set_cons_zero, List.set_cons_succ]
      refine g_nil (fun w4 hT4 => ?_)
      have HB5 := hide (keepB hT4.below (Nat.le_refl _) HB4.out)
      clear hT4
      go_wp2
      go_ret
      exact ⟨rfl, HB5.out⟩
end Go.Proofs.YtofflmhfffphdaaDoor.SumEndsW
