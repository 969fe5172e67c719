/- AuthChecks's walk. -/
import Derived.Test.YtifepgigkmhdaaaDoorPk
import Derived.Test.YtifepgigkmhdaaaDoorAh
namespace Go.Proofs.YtifepgigkmhdaaaDoor.AuthChecksW
set_option linter.unusedVariables false
set_option linter.unusedSimpArgs false
set_option maxRecDepth 100000
open Go.ChangeShapes Go.WideShapes Go.ChangeAt Go.RowKit
open Go.Proofs.YtifepgigkmhdaaaDoor.Wu Go.Proofs.YtifepgigkmhdaaaDoor.Sm Go.Proofs.YtifepgigkmhdaaaDoor.Sh Go.Proofs.YtifepgigkmhdaaaDoor.Ba Go.Proofs.YtifepgigkmhdaaaDoor.Bp Go.Proofs.YtifepgigkmhdaaaDoor.Bs Go.Proofs.YtifepgigkmhdaaaDoor.Ab Go.Proofs.YtifepgigkmhdaaaDoor.Rk Go.Proofs.YtifepgigkmhdaaaDoor.Rx Go.Proofs.YtifepgigkmhdaaaDoor.Ac Go.Proofs.YtifepgigkmhdaaaDoor.Ad Go.Proofs.YtifepgigkmhdaaaDoor.Ae Go.Proofs.YtifepgigkmhdaaaDoor.Af Go.Proofs.YtifepgigkmhdaaaDoor.Ah
open Go.Proofs.YtifepgigkmhdaaaDoor.Sn (Fst fst_keep)
open Go.Proofs.YtifepgigkmhdaaaDoor.Sxa (Tbl tbl_keep)
open Go.Proofs.YtifepgigkmhdaaaDoor.Smc (macL)
attribute [local go_sem] kUpon_value kUpon_skip kUpon_enter
/-- What the law lays first. -/
structure NB (w : World) (mo : Array Value) (Z : List Nat) (u : World) : Prop where
  below : Below w.heap.size w u
  mod : u.heap[w.heap.size]? = some (.cells mo 104 (0, 0))
  tr : u.heap[w.heap.size + 1]? = some (.cells (u8s Z) 106 (0, 0))
theorem NB.up {w : World} {mo : Array Value} {Z : List Nat} {u u' : World} (h : NB w mo Z u) (hb : Below u.heap.size u u') : NB w mo Z u' :=
  ⟨keepB hb (Nat.le_refl _) h.below, below_blk hb (heap_lt h.mod) h.mod, below_blk hb (heap_lt h.tr) h.tr⟩
theorem NB.drew {w : World} {mo : Array Value} {Z : List Nat} {u : World} (h : NB w mo Z u) : NB w mo Z u.drew := ⟨h.below.drew, h.mod, h.tr⟩
theorem NB.start (w : World) (mo : Array Value) (Z : List Nat) : NB w mo Z ((w.alloc (.cells mo 104)).alloc (.cells (u8s Z) 106)) :=
  ⟨((Below.refl w.heap.size w).alloc (Nat.le_refl _) _).alloc (by simp) _, heap_2a _ _ _, heap_2b _ _ _⟩
theorem range_app {w : World} {B : Nat} {X Y : List Nat} {T : TypeId} {f : Nat × Nat} (h : w.heap[B]? = some (.cells (u8s (X ++ Y)) T f)) : w.rangeAt B 0 (b8 X) ∧ w.rangeAt B X.length (b8 Y) := by
  have e : b8 (X ++ Y) = b8 X ++ b8 Y := by unfold b8; rw [List.map_append]
  have h8 : w.rangeAt B 0 (b8 (X ++ Y)) := range8_all h
  rw [e] at h8
  refine ⟨fun j v hv => h8 j v ?_, fun j v hv => ?_⟩
  · have hj := (List.getElem?_eq_some_iff.1 hv).1
    rw [List.getElem?_append_left hj]; exact hv
  · have := h8 (X.length + j) v (by
      rw [List.getElem?_append_right (by rw [b8_length]; omega), b8_length, Nat.add_sub_cancel_left]; exact hv)
    rw [Nat.zero_add] at this
    exact this
theorem load_half {w : World} {B o n : Nat} {X : List Nat} (ty : TypeId) (d : TypeDesc) (h : w.rangeAt B o (b8 X)) (hu : Tryd.prog.underlying ty = some d) (hd : d.isRow = true) (hi : (Tryd.prog.info? ty).map (·.size) = some n) (hX : X.length = n) : Sem.run Tryd.prog (loadVar ty ⟨B, o, none⟩) w = .ok (.agg (u8s X)) w := by
  have h4 := run_loadVar_mid (P := Tryd.prog) w B o ty (b8 X) _ h hu hd (by rw [hi]; simp [b8_length, hX])
  exact h4
set_option maxHeartbeats 1600000 in
theorem out_walk (n r nm : ByteArray) (bw : Bool) (sl qu : Int) (a : Option Addr) (m c : Nat) (Z : List Nat) (w : World) (hT : Tbl w) (hF : Fst w) (hg : 20 < m ∨ 100 < n.size) :
    Calls Tryd.prog 10 #[modV n r bw sl qu a m c, .string nm, .agg (u8s Z)] w fun e w' => e = .returned (.bool true) ∧ Below w.heap.size w w' := by
  have hst := NB.start w #[.string n, .string r, .bool bw, .int .i64 sl, .int .i64 qu, .slice a m c] Z
  have H0 := hide hst
  have HH := hide (lets_c _ (tbl_keep hT hst.below (Nat.le_refl _)) (fst_keep hF hst.below (Nat.le_refl _)))
  clear hT hF hst
  obtain ⟨p, hp⟩ : ∃ p, n.size = p := ⟨_, rfl⟩
  rw [hp] at hg
  unfold modV
  have hc : 20 < m ∨ (¬ 20 < m ∧ 100 < p) := by omega
  clear hg
  rcases hc with h1 | ⟨h1, h2⟩
  · have d1 : decide ((20 : Int) < (m : Int)) = true := by simp; omega
    have d1' : decide (20 < m) = true := by simp; omega
    clear h1
    go_enter Tryd.func10, Tryd.ntmps10
    go_wp2_with fail
    generalize ((w.alloc (.cells #[.string n, .string r, .bool bw, .int .i64 sl, .int .i64 qu, .slice a m c] 104)).alloc (.cells (u8s Z) 106)) = w0 at *
    refine HH.out.mono ?_
    rintro e w1 ⟨rfl, hb1⟩
    have H1 := hide (H0.out.up hb1)
    clear hb1 HH H0
    have c0 := blk_cell (i := 0) H1.out.mod rfl
    have c5 := blk_cell (i := 5) H1.out.mod rfl
    go_wp2
    go_ret
    exact ⟨rfl, H1.out.below⟩
  · have d1 : decide ((20 : Int) < (m : Int)) = false := by simp; omega
    have d1' : decide (20 < m) = false := by simp; omega
    have d2 : decide ((100 : Int) < (p : Int)) = true := by simp; omega
    have d2' : decide (100 < p) = true := by simp; omega
    clear h1 h2
    go_enter Tryd.func10, Tryd.ntmps10
    go_wp2_with fail
    generalize ((w.alloc (.cells #[.string n, .string r, .bool bw, .int .i64 sl, .int .i64 qu, .slice a m c] 104)).alloc (.cells (u8s Z) 106)) = w0 at *
    refine HH.out.mono ?_
    rintro e w1 ⟨rfl, hb1⟩
    have H1 := hide (H0.out.up hb1)
    clear hb1 HH H0
    have c0 := blk_cell (i := 0) H1.out.mod rfl
    have c5 := blk_cell (i := 5) H1.out.mod rfl
    go_wp2
    go_ret
    exact ⟨rfl, H1.out.below⟩
/-- A slice of users of the call's own. -/
def usC (us : List (ByteArray × ByteArray)) : List Value := us.flatMap fun u => [.string u.1, .string u.2]
theorem usC_length (us : List (ByteArray × ByteArray)) : (usC us).length = us.length * 2 := by
  induction us with
  | nil => rfl
  | cons u us ih => unfold usC at ih ⊢; rw [List.flatMap_cons, List.length_append, ih, List.length_cons]; simp; omega
theorem usC_at : ∀ (us : List (ByteArray × ByteArray)) (i : Nat) (n s : ByteArray), us[i]? = some (n, s) → (usC us)[i * 2]? = some (.string n) ∧ (usC us)[i * 2 + 1]? = some (.string s)
  | [], i, n, s, h => by simp at h
  | u :: us, 0, n, s, h => by
    simp at h
    subst h
    exact ⟨rfl, rfl⟩
  | u :: us, i + 1, n, s, h => by
    have ih := usC_at us i n s (by simpa using h)
    unfold usC at ih ⊢
    rw [List.flatMap_cons]
    refine ⟨?_, ?_⟩
    · rw [List.getElem?_append_right (by simp; omega)]
      simpa [show (i + 1) * 2 - 2 = i * 2 by omega] using ih.1
    · rw [List.getElem?_append_right (by simp; omega)]
      simpa [show (i + 1) * 2 + 1 - 2 = i * 2 + 1 by omega] using ih.2
def OwnU (w : World) (N : Nat) (v : Value) (us : List (ByteArray × ByteArray)) : Prop := w.ownsRow N 110 2 v us.length (usC us)
theorem OwnU.nil (w : World) (N : Nat) : OwnU w N (.slice none 0 0) [] := World.ownsRow_nil _ _ _ _
theorem OwnU.below {w w' : World} {N : Nat} {v : Value} {us : List (ByteArray × ByteArray)} (h : OwnU w N v us) (hb : Below w.heap.size w w') : OwnU w' N v us := by
  obtain ⟨h1, h2⟩ := h
  refine ⟨h1, ?_⟩
  rcases h2 with h | ⟨g, cap, cur, rfl, hb', hg, r⟩
  · exact .inl h
  · exact .inr ⟨g, cap, cur, rfl, hb', below_blk hb (heap_lt hg) hg, r⟩
theorem OwnU.is {w : World} {N : Nat} {v : Value} {us : List (ByteArray × ByteArray)} (h : OwnU w N v us) : ∃ a c, v = .slice a us.length c ∧ IsUs w a us.length c us := by
  obtain ⟨h1, h2⟩ := h
  rcases h2 with ⟨rfl, hn⟩ | ⟨g, cap, cur, rfl, hb, hg, hl, hm, hs, ht⟩
  · obtain rfl : us = [] := List.length_eq_zero_iff.1 hn
    exact ⟨none, 0, rfl, IsUs.nil w none 0 (by omega)⟩
  · unfold maxLen at hm
    refine ⟨some ⟨g, 0, none⟩, cap, rfl, ⟨rfl, hl, by omega, g, 0, fun _ => rfl, fun i n s hi => ?_⟩⟩
    have hc := usC_at us i n s hi
    have key : ∀ j x, (usC us)[j]? = some x → w.cell? ⟨g, j, none⟩ = some x := fun j x hx => by
      refine blk_cell hg ?_
      rw [← ht, List.getElem?_take] at hx
      split at hx
      · simpa using hx
      · cases hx
    rw [Nat.zero_add]
    exact ⟨key _ _ hc.1, key _ _ hc.2⟩
theorem info_usr : (Tryd.prog.info? 110).map (fun i => (i.zero, i.size, i.bytes)) = some (some (.agg #[.string ⟨#[]⟩, .string ⟨#[]⟩]), 2, 32) := by kernel_rfl
theorem append_usr (w : World) (ty : TypeId) (v : Value) (N : Nat) (us : List (ByteArray × ByteArray)) (b : Nat) (n s : ByteArray) (T : TypeId) (f : Nat × Nat) (c : Nat) (h : OwnU w N v us) (hN : N ≤ w.heap.size) (hb : w.heap[b]? = some (.cells #[.string n, .string s] T f)) (hbig : us.length ≤ 1000) :
    ∃ v' w', (Builtin.append_ #[107, 107] ty #[v, .slice (some ⟨b, 0, none⟩) 1 c]).run Tryd.prog w = .ok v' w' ∧ OwnU w' N v' (us ++ [(n, s)]) ∧ w.grownBy w' v.ownBlock ∧ (v'.ownBlock = v.ownBlock ∨ v'.ownBlock = some w.heap.size) := by
  obtain ⟨i0, hi0, hz0, hz1, hz2⟩ := info_parts info_usr
  have hcells : ∀ j u, ([Value.string n, .string s] : List Value)[j]? = some u → w.cell? ((⟨b, 0, none⟩ : Addr).add j) = some u := by
    intro j u hu
    rw [Addr.add_mid, Nat.zero_add]
    exact blk_cell hb (by simpa using hu)
  obtain ⟨v', w', hr, h1, h2, h3, h4⟩ := run_append_own_at (P := Tryd.prog) w N 107 ty 110 i0 _ 2 32 Tryd.underlying107 hi0 hz0 hz1 hz2 (by kernel_rfl) (by omega) v us.length (usC us) h ⟨b, 0, none⟩ 1 c [.string n, .string s] rfl hcells (by intro v hv; simp at hv; rcases hv with rfl | rfl <;> rfl) (by unfold maxLen; omega) (by omega) hN
  refine ⟨v', w', hr, ?_, h2, h4⟩
  unfold OwnU
  have e : usC (us ++ [(n, s)]) = usC us ++ [.string n, .string s] := by simp [usC]
  rw [e, List.length_append]
  exact h1
theorem NB.kept {w : World} {mo : Array Value} {Z : List Nat} {u u' : World} {row : Option Nat} (h : NB w mo Z u) (hg : u.grownBy u' row) (hr : ∀ g, row = some g → w.heap.size + 2 ≤ g) : NB w mo Z u' :=
  ⟨h.below.grown hg h.below.size (fun g hgr => by have := hr g hgr; omega), (hg.block _ (heap_lt h.mod) (fun e => by have := hr _ e.symm; omega)).trans h.mod, (hg.block _ (heap_lt h.tr) (fun e => by have := hr _ e.symm; omega)).trans h.tr⟩
set_option maxHeartbeats 3200000 in
theorem in_walk (M : List Nat) (r nm : ByteArray) (bw : Bool) (sl qu : Int) (a : Option Addr) (m c : Nat) (us : List (ByteArray × ByteArray)) (X Y : List Nat) (w : World) (hu : IsUs w a m c us) (hM : All8 M) (hX : X.length = 16 ∧ All8 X) (hY : Y.length = 32 ∧ All8 Y) (hT : Tbl w) (hF : Fst w) (h1 : m ≤ 20) (h2 : M.length ≤ 100) :
    Calls Tryd.prog 10 #[modV (strN M) r bw sl qu a m c, .string nm, .agg (u8s (X ++ Y))] w fun e w' => e = .returned (.bool true) ∧ Below w.heap.size w w' := by
  have hst := NB.start w #[.string (strN M), .string r, .bool bw, .int .i64 sl, .int .i64 qu, .slice a m c] (X ++ Y)
  have H0 := hide hst
  have HH := hide (lets_c _ (tbl_keep hT hst.below (Nat.le_refl _)) (fst_keep hF hst.below (Nat.le_refl _)))
  have HTF := hide (fun (u : World) (hb : Below w.heap.size w u) => (⟨tbl_keep hT hb (Nat.le_refl _), fst_keep hF hb (Nat.le_refl _)⟩ : Tbl u ∧ Fst u))
  have HU := hide hu
  have Hin := hide (⟨hM, hX, hY, h2⟩ : All8 M ∧ (X.length = 16 ∧ All8 X) ∧ (Y.length = 32 ∧ All8 Y) ∧ M.length ≤ 100)
  obtain ⟨hlen, hmc, hcm, g, off, ha, hcell⟩ := hu
  have HL := hide hlen
  have HC := hide (fun i n s (h : us[i]? = some (n, s)) (u : World) (hb : Below w.heap.size w u) => (⟨keepC hb (Nat.le_refl _) (hcell i n s h).1, keepC hb (Nat.le_refl _) (hcell i n s h).2⟩ : _ ∧ _))
  have e1 := strN_size M
  clear hT hF hst hX hY hlen hcell
  obtain ⟨p, hp⟩ : ∃ p, p = M.length := ⟨_, rfl⟩
  rw [← hp] at e1 h2
  obtain ⟨SM, hSM⟩ : ∃ SM, SM = strN M := ⟨_, rfl⟩
  have HSM := hide hSM
  rw [← hSM] at H0 HH e1 ⊢
  clear hp hSM hM
  unfold modV
  have d1 : decide ((20 : Int) < (m : Int)) = false := by simp; omega
  have d1' : decide (20 < m) = false := by simp; omega
  have d2 : decide ((100 : Int) < (p : Int)) = false := by simp; omega
  have d2' : decide (100 < p) = false := by simp; omega
  go_enter Tryd.func10, Tryd.ntmps10
  go_wp2_with fail
  generalize ((w.alloc (.cells #[.string SM, .string r, .bool bw, .int .i64 sl, .int .i64 qu, .slice a m c] 104)).alloc (.cells (u8s (X ++ Y)) 106)) = w0 at *
  refine HH.out.mono ?_
  rintro e w1 ⟨rfl, hb1⟩
  have H1 := hide (H0.out.up hb1)
  clear hb1 HH H0
  have c0 := blk_cell (i := 0) H1.out.mod rfl
  have c5 := blk_cell (i := 5) H1.out.mod rfl
  go_wp2_with fail
  clear c0 c5 d1 d1' d2 d2'
  go_loopw [25, 7] (fun j v wr => ∃ k, j = .int .i64 ((k : Nat) : Int) ∧ k ≤ m ∧ Hid (∀ x ∈ us.take k, x.2.size ≤ 200) ∧ NB w #[.string SM, .string r, .bool bw, .int .i64 sl, .int .i64 qu, .slice a m c] (X ++ Y) wr ∧ OwnU wr (w.heap.size + 2) v (us.take k)) (fun j _ _ => m - (intOf j).toNat)
  case atStart => exact ⟨0, rfl, Nat.zero_le _, (show ∀ x ∈ us.take 0, _ from by simp), H1.out, OwnU.nil _ _⟩
  case round =>
    clear H1
    obtain ⟨k, rfl, hk, HN, hnb, hown⟩ := hrel
    have H1 := hide hnb
    have HO := hide hown
    clear hnb hown
    by_cases hlt : k < m
    · obtain ⟨⟨n, s⟩, hks⟩ : ∃ u, us[k]? = some u := ⟨us[k]'(by rw [HL.out]; exact hlt), by rw [List.getElem?_eq_getElem]⟩
      obtain ⟨c0, c1⟩ := HC.out k n s hks wr H1.out.below
      have Htk : Hid (us.take (k + 1) = us.take k ++ [(n, s)]) := hide (by rw [List.take_add_one, hks]; rfl)
      obtain rfl := ha (by omega)
      clear hks ha
      have d1 : decide ((k : Int) < (m : Int)) = true := by simpa using hlt
      have i1 : (0 : Int) ≤ (k : Int) := by omega
      have i2 : (k : Int) < (m : Int) := by omega
      have HNn := hide (fun (h2 : s.size ≤ 200) => (show ∀ x ∈ us.take (k + 1), x.2.size ≤ 200 from fun x hx => by
        rw [Htk.out] at hx
        rcases List.mem_append.1 hx with hx | hx
        · exact HN.out x hx
        · simp at hx; rw [hx]; exact h2))
      obtain ⟨z, hz⟩ : ∃ z, s.size = z := ⟨_, rfl⟩
      rw [hz] at HNn
      clear HN
      have H2 := hide (H1.out.up (below_new wr (.cells #[.string n, .string s] 109)))
      by_cases hz2 : 200 < z
      · have d3 : decide ((200 : Int) < (z : Int)) = true := by simp; omega
        have d3' : decide (200 < z) = true := by simp; omega
        clear HNn hz2
        go_wp2
        go_ret
        exact ⟨rfl, H2.out.below⟩
      · have d3 : decide ((200 : Int) < (z : Int)) = false := by simp; omega
        have d3' : decide (200 < z) = false := by simp; omega
        have HNx := hide (HNn.out (by omega))
        have H3 := hide (H2.out.up (below_new (wr.alloc (.cells #[.string n, .string s] 109)) (.cells #[.string n, .string s] 110)))
        have ho3 := (HO.out.below (below_new wr (.cells #[.string n, .string s] 109))).below (below_new (wr.alloc (.cells #[.string n, .string s] 109)) (.cells #[.string n, .string s] 110))
        have hs0 := heap_lt H1.out.tr
        obtain ⟨v', w4, hrun, ho4, hg4, -⟩ := append_usr _ 107 u7 (w.heap.size + 2) (us.take k) (wr.heap.size + 1) n s 110 (0, 0) 1 ho3 (by simp; omega) (heap_2b wr _ _) (by rw [List.length_take]; omega)
        have hlow : ∀ q, u7.ownBlock = some q → w.heap.size + 2 ≤ q := fun q hq => (World.ownsRow.lt HO.out q hq).1
        have H4 := hide (H3.out.kept hg4 hlow)
        rw [← Htk.out] at ho4
        have HO4 := hide ho4
        have Hrun := hide hrun
        clear HNn hz2 ho3 hg4 ho4 hrun hlow H1 H2 HO
        go_wp2_with (refine Rw.wpList_append_at (v' := v') (w' := w4) rfl 107 (.tmp 33) (.tmp 39) rfl ?_ ?_; exact Hrun.out)
        go_roundw
        case rel => exact ⟨k + 1, by go_num, by omega, HNx, H4.out, HO4.out⟩
        case measure => simp [intOf]; omega
    · obtain rfl : k = m := by omega
      have d1 : decide ((k : Int) < (k : Int)) = false := by simp
      have htk : us.take k = us := List.take_of_length_le (by rw [HL.out]; exact Nat.le_refl _)
      have hall := HN.out
      have ho := HO.out
      rw [htk] at hall ho
      obtain ⟨av, cv, rfl, hus⟩ := ho.is
      rw [HL.out] at hus ⊢
      have HUv := hide hus
      obtain ⟨hM, hX, hY, hMl⟩ := Hin.out
      obtain ⟨E, hE⟩ : ∃ E, E = chkE us nm M X Y := ⟨_, rfl⟩
      have HC1 := hide (fun (u : World) (hb : Below w.heap.size w u) => check_c M r nm bw sl qu a k c us X Y u (HU.out.below hb) hM (by omega) hX.2 hX.1 hY.1 (fun x hx => by have := hall x hx; omega) (HTF.out u hb).1 (HTF.out u hb).2)
      rw [← hE, ← HSM.out] at HC1
      have HC2 := hide (fun (u : World) (hb : IsUs u av k cv us) => refcheck_c M nm av k cv us X Y u hb hM (by omega) hX.2 hX.1 hY.1 (fun x hx => by have := hall x hx; omega))
      rw [← hE, ← HSM.out] at HC2
      have HXl := hide (⟨hX.1, hY.1⟩ : _ ∧ _)
      have hee : (E == E) = true := by simp
      unfold modV at HC1
      clear hall ho hM hX hY hMl hE HN ha hk HU Hin HTF HSM HL htk hus HO
      go_wp2_with fail
      have hrZ := fun (u : World) (h : u.heap[w.heap.size + 1]? = some (.cells (u8s (X ++ Y)) 106 (0, 0))) => range_app (X := X) (Y := Y) h
      have HrZ := hide hrZ
      rw [HXl.out.1] at HrZ
      clear hrZ
      refine wp_region_keep (fun u => NB w #[.string SM, .string r, .bool bw, .int .i64 sl, .int .i64 qu, .slice a k c] (X ++ Y) u ∧ IsUs u av k cv us) (by kernel_rfl) (by kernel_rfl) ⟨H1.out.drew, HUv.out⟩ ?_
      repeat (first
        | (refine keep_step (v := .agg (u8s X)) (by rfl) (fun u K hS hK => kUpon_load_mid 98 (.tmp 44) rfl (w.heap.size + 1) 0 _ rfl (load_half 98 _ (HrZ.out u hS.1.tr).1 Tryd.underlying98 rfl infoN HXl.out.1) (hK _ hS)) ?_
           simp only [Act.put, List.setIfInBounds_toArray, List.set_cons_zero, List.set_cons_succ])
        | (refine keep_step (v := .agg (u8s Y)) (by rfl) (fun u K hS hK => kUpon_load_mid 79 (.tmp 46) rfl (w.heap.size + 1) 16 _ rfl (load_half 79 _ (HrZ.out u hS.1.tr).2 Tryd.underlying79 rfl infoS HXl.out.2) (hK _ hS)) ?_
           simp only [Act.put, List.setIfInBounds_toArray, List.set_cons_zero, List.set_cons_succ])
        | (refine keep_step (v := .agg (u8s X)) (by rfl) (fun u K hS hK => kUpon_load_mid 98 (.tmp 53) rfl (w.heap.size + 1) 0 _ rfl (load_half 98 _ (HrZ.out u hS.1.tr).1 Tryd.underlying98 rfl infoN HXl.out.1) (hK _ hS)) ?_
           simp only [Act.put, List.setIfInBounds_toArray, List.set_cons_zero, List.set_cons_succ])
        | (refine keep_step (v := .agg (u8s Y)) (by rfl) (fun u K hS hK => kUpon_load_mid 79 (.tmp 55) rfl (w.heap.size + 1) 16 _ rfl (load_half 79 _ (HrZ.out u hS.1.tr).2 Tryd.underlying79 rfl infoS HXl.out.2) (hK _ hS)) ?_
           simp only [Act.put, List.setIfInBounds_toArray, List.set_cons_zero, List.set_cons_succ])
        | (refine keep_step (v := ?_) (by rfl) (fun u K hS hK => ?_) ?_
           rotate_left
           · have c0 := blk_cell (i := 0) hS.1.mod rfl
             have c1 := blk_cell (i := 1) hS.1.mod rfl
             have c2 := blk_cell (i := 2) hS.1.mod rfl
             have c3 := blk_cell (i := 3) hS.1.mod rfl
             have c4 := blk_cell (i := 4) hS.1.mod rfl
             have c5 := blk_cell (i := 5) hS.1.mod rfl
             (go_simp; first
               | (go_at_call 47; (with_reducible refine Calls.mono (HC1.out _ hS.1.below) ?_); rintro e u2 ⟨rfl, hu⟩; exact hK _ ⟨hS.1.up hu, hS.2.below hu⟩)
               | (go_at_call 48; (with_reducible refine Calls.mono (HC2.out _ hS.2) ?_); rintro e u2 ⟨rfl, hu⟩; exact hK _ ⟨hS.1.up hu, hS.2.below hu⟩)
               | (with_reducible exact hK _ hS))
           simp only [Act.put, List.setIfInBounds_toArray, List.set_cons_zero, List.set_cons_succ]))
      refine keep_nil (fun w3 hS3 => ?_)
      have HB3 := hide hS3.1.below
      clear hS3
      go_wp2
      go_ret
      exact ⟨rfl, HB3.out⟩
theorem walk_any (n r nm : ByteArray) (bw : Bool) (sl qu : Int) (a : Option Addr) (m c : Nat) (us : List (ByteArray × ByteArray)) (X Y : List Nat) (w : World) (hu : IsUs w a m c us) (hX : X.length = 16 ∧ All8 X) (hY : Y.length = 32 ∧ All8 Y) (hT : Tbl w) (hF : Fst w) :
    Calls Tryd.prog 10 #[modV n r bw sl qu a m c, .string nm, .agg (u8s (X ++ Y))] w fun e w' => e = .returned (.bool true) ∧ Below w.heap.size w w' := by
  by_cases hg : 20 < m ∨ 100 < n.size
  · exact out_walk n r nm bw sl qu a m c (X ++ Y) w hT hF hg
  · obtain ⟨M, hM, rfl, hMl⟩ := strN_of n
    exact in_walk M r nm bw sl qu a m c us X Y w hu hM hX hY hT hF (by omega) (by omega)
end Go.Proofs.YtifepgigkmhdaaaDoor.AuthChecksW
