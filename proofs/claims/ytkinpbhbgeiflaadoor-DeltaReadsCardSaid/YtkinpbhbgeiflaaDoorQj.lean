/- Several texts, one behind the other. -/
import Derived.Test.YtkinpbhbgeiflaaDoorQi
import Derived.Test.YtkinpbhbgeiflaaDoorQg
import Derived.Test.YtkinpbhbgeiflaaDoorQf
import Derived.Lib.SlBytesConst
/- delta.Make. -/
namespace Go.Proofs.YtkinpbhbgeiflaaDoor.Dl
set_option linter.unusedVariables false
set_option linter.unusedSimpArgs false
set_option maxRecDepth 100000
open Go.ChangeShapes Go.WideShapes Go.ChangeAt Go.RowKit
open Go.Proofs.YtkinpbhbgeiflaaDoor.Wu Go.Proofs.YtkinpbhbgeiflaaDoor.Sm Go.Proofs.YtkinpbhbgeiflaaDoor.Sh Go.Proofs.YtkinpbhbgeiflaaDoor.Ba Go.Proofs.YtkinpbhbgeiflaaDoor.Bp Go.Proofs.YtkinpbhbgeiflaaDoor.Bq Go.Proofs.YtkinpbhbgeiflaaDoor.Rk Go.Proofs.YtkinpbhbgeiflaaDoor.Rh Go.Proofs.YtkinpbhbgeiflaaDoor.Rw Go.Proofs.YtkinpbhbgeiflaaDoor.Ka Go.Proofs.YtkinpbhbgeiflaaDoor.Kb Go.Proofs.YtkinpbhbgeiflaaDoor.Kc Go.Proofs.YtkinpbhbgeiflaaDoor.Kd Go.Proofs.YtkinpbhbgeiflaaDoor.Ke Go.Proofs.YtkinpbhbgeiflaaDoor.Kh Go.Proofs.YtkinpbhbgeiflaaDoor.Di Go.Proofs.YtkinpbhbgeiflaaDoor.Ki Go.Proofs.YtkinpbhbgeiflaaDoor.Kj Go.Proofs.YtkinpbhbgeiflaaDoor.Kk Go.Proofs.YtkinpbhbgeiflaaDoor.Kl Go.Proofs.YtkinpbhbgeiflaaDoor.Kn Go.Proofs.YtkinpbhbgeiflaaDoor.Ko Go.Proofs.YtkinpbhbgeiflaaDoor.Ku Go.Proofs.YtkinpbhbgeiflaaDoor.Da Go.Proofs.YtkinpbhbgeiflaaDoor.Db Go.Proofs.YtkinpbhbgeiflaaDoor.Dc Go.Proofs.YtkinpbhbgeiflaaDoor.Dd Go.Proofs.YtkinpbhbgeiflaaDoor.Df Go.Proofs.YtkinpbhbgeiflaaDoor.Dg Go.Proofs.YtkinpbhbgeiflaaDoor.Dh Go.Proofs.YtkinpbhbgeiflaaDoor.Dj Go.Proofs.YtkinpbhbgeiflaaDoor.Dk
open Go.Proofs.YtkinpbhbgeiflaaDoor.Sn (Fst fst_keep)
open Go.Proofs.YtkinpbhbgeiflaaDoor.Sxa (Tbl tbl_keep)
open Go.Proofs.YtkinpbhbgeiflaaDoor.Wm (lo hi)
open Go.Proofs.YtkinpbhbgeiflaaDoor.Su (cutL Cnt)
attribute [local go_sem] kUpon_value kUpon_skip kUpon_enter
def MakeP (w : World) (fin : List Tok) (e : Ending) (w' : World) : Prop :=
  ∃ v ps, e = .returned (.tuple #[v, .int .i64 0]) ∧ ps.map (·.1) = fin ∧ OwnT w' w.heap.size v ps ∧ Below w.heap.size w w'
/-- How much is left of the window in this block. -/
def leftOf (b : Value) (u : World) : Nat := match b with
  | .pointer (some p) => match u.cell? ⟨p.block, 1, none⟩ with
    | some (.slice _ n _) => n
    | _ => 0
  | _ => 0
theorem leftOf_is {u : World} {B s n c : Nat} {a : Option Addr} {P : List Nat} (h : WinAt u B s a n c P) : leftOf (.pointer (some ⟨B, 0, none⟩)) u = n := by
  unfold leftOf
  simp only [h.cs.2.1]
/-- The loop. -/
structure LI (w6 : World) (s : Nat) (fd : List Nat → Option Nat) (fin : List Tok) (n0 : Nat) (v b : Value) (ps : List TV) (B n c : Nat) (a : Option Addr) (R : List Nat) (u : World) : Prop where
  lb : LB w6 v B ps u
  hb : b = .pointer (some ⟨B, 0, none⟩)
  win : WinAt u B s a n c (R.take s)
  src : SrcB w6 a n R
  fit : n ≤ c
  max : c ≤ 9223372036854775807
  nil : a = none → n = 0
  rest : ∃ f, R.length ≤ f ∧ mkT fd s f R (ps.map (·.1)) = fin
  len : ps.length + n ≤ n0
  dl : ∀ p ∈ ps, p.1.d.length + n ≤ n0
theorem LI.start {w6 u : World} {s : Nat} {fd : List Nat → Option Nat} {D : List Nat} {B n c : Nat} {a : Option Addr} (hlb : LB w6 (.slice none 0 0) B [] u) (hw : WinAt u B s a n c (D.take s)) (hs : SrcB w6 a n D) (hc : n ≤ c) (hm : c ≤ 9223372036854775807) (hn : a = none → n = 0) :
    LI w6 s fd (mkA fd s D) n (.slice none 0 0) (.pointer (some ⟨B, 0, none⟩)) [] B n c a D u :=
  ⟨hlb, rfl, hw, hs, hc, hm, hn, ⟨D.length, Nat.le_refl _, rfl⟩, by simp, fun p hp => by cases hp⟩
theorem LI.up {w6 : World} {s : Nat} {fd : List Nat → Option Nat} {fin : List Tok} {n0 : Nat} {v b : Value} {ps : List TV} {B n c : Nat} {a : Option Addr} {R : List Nat} {u u' : World} (h : LI w6 s fd fin n0 v b ps B n c a R u) (hb : Below u.heap.size u u') : LI w6 s fd fin n0 v b ps B n c a R u' :=
  ⟨h.lb.up hb, h.hb, h.win.up hb, h.src, h.fit, h.max, h.nil, h.rest, h.len, h.dl⟩
theorem LI.cs {w6 : World} {s : Nat} {fd : List Nat → Option Nat} {fin : List Tok} {n0 : Nat} {v b : Value} {ps : List TV} {B n c : Nat} {a : Option Addr} {R : List Nat} {u : World} (h : LI w6 s fd fin n0 v b ps B n c a R u) : u.cell? ⟨B, 0, none⟩ = some (.int .i64 (s : Int)) ∧ u.cell? ⟨B, 1, none⟩ = some (.slice a n c) ∧ u.cell? ⟨B, 2, none⟩ = some (.int .i64 ((R.take s).length : Int)) ∧ u.cell? ⟨B, 2 + 1, none⟩ = some (.int .u16 (lo (ints (R.take s)))) ∧ u.cell? ⟨B, 2 + 2, none⟩ = some (.int .u16 (hi (ints (R.take s)))) := h.win.cs
/-- The token that is put behind, and what is left then. -/
def tokOf (R : List Nat) : Option Nat → Tok
  | none => ⟨0, 0, R.take 1⟩
  | some i => ⟨(i : Int), 1, []⟩
def leftN (s : Nat) (R : List Nat) : Option Nat → Nat
  | none => 1
  | some _ => (R.take s).length
theorem leftN_drop (s : Nat) (R : List Nat) (o : Option Nat) : R.drop (leftN s R o) = match o with | none => R.drop 1 | some _ => R.drop s := by
  cases o with
  | none => rfl
  | some i =>
    show R.drop (R.take s).length = R.drop s
    rcases Nat.le_total s R.length with h | h
    · rw [List.length_take, Nat.min_eq_left h]
    · rw [List.length_take, Nat.min_eq_right h, List.drop_of_length_le (Nat.le_refl _), List.drop_of_length_le h]
theorem step_T {fd : List Nat → Option Nat} {s f : Nat} {R : List Nat} {ts fin : List Tok} (hR : R ≠ []) (hf : R.length ≤ f) (hs : 1 ≤ s) (h : mkT fd s f R ts = fin) : ∃ f', (R.drop (leftN s R (fd (R.take s)))).length ≤ f' ∧ mkT fd s f' (R.drop (leftN s R (fd (R.take s)))) (joinT ts (tokOf R (fd (R.take s)))) = fin := by
  have hpos := List.length_pos_iff.2 hR
  obtain ⟨f, rfl⟩ : ∃ f', f = f' + 1 := ⟨f - 1, by omega⟩
  refine ⟨f, ?_, ?_⟩
  · rw [List.length_drop]
    have : 1 ≤ leftN s R (fd (R.take s)) := by
      unfold leftN
      split
      · omega
      · rw [List.length_take]; omega
    omega
  · rw [leftN_drop]
    cases hfd : fd (R.take s) with
    | none => rw [mkT_none hR hfd] at h; exact h
    | some i => rw [mkT_some hR hfd] at h; exact h
theorem joinT_dl {ts : List Tok} {x : Tok} {q : Nat} (h : ∀ t ∈ ts, t.d.length ≤ q) : ∀ t ∈ joinT ts x, t.d.length ≤ q + x.d.length := by
  rcases List.eq_nil_or_concat ts with rfl | ⟨us, l, rfl⟩
  · intro t ht
    rw [joinT_nil, List.mem_singleton] at ht
    rw [ht]; omega
  · rw [List.concat_eq_append] at h ⊢
    rw [joinT_snoc]
    have hl := h l (by simp)
    split
    · rename_i y hy
      intro t ht
      rcases List.mem_append.1 ht with ht | ht
      · have := h t (List.mem_append_left _ ht); omega
      · rw [List.mem_singleton.1 ht]
        unfold fuse at hy
        split at hy
        · injection hy with hy; subst hy; simp only [List.length_append]; omega
        · split at hy
          · injection hy with hy; subst hy; simp only; omega
          · cases hy
    · intro t ht
      simp only [List.mem_append, List.mem_cons, List.not_mem_nil, or_false] at ht
      rcases ht with ht | rfl | rfl
      · have := h t (List.mem_append_left _ ht); omega
      · omega
      · omega
/-- The next round: the list has the token, the window stands in the new block. -/
theorem LI.next {w6 : World} {s : Nat} {fd : List Nat → Option Nat} {fin : List Tok} {n0 : Nat} {v b v' : Value} {ps ps' : List TV} {B B' n c : Nat} {a : Option Addr} {R : List Nat} {u u' : World} (h : LI w6 s fd fin n0 v b ps B n c a R u) (hs : 1 ≤ s) (hn : 0 < n)
    (hm : ps'.map (·.1) = joinT (ps.map (·.1)) (tokOf R (fd (R.take s)))) (hlb : LB w6 v' B' ps' u') (hw : WinAt u' B' s (shf a c (leftN s R (fd (R.take s)))) (n - leftN s R (fd (R.take s))) (c - leftN s R (fd (R.take s))) ((R.drop (leftN s R (fd (R.take s)))).take s)) :
    LI w6 s fd fin n0 v' (.pointer (some ⟨B', 0, none⟩)) ps' B' (n - leftN s R (fd (R.take s))) (c - leftN s R (fd (R.take s))) (shf a c (leftN s R (fd (R.take s)))) (R.drop (leftN s R (fd (R.take s)))) u' ∧ n - leftN s R (fd (R.take s)) < n := by
  have hl := h.src.1
  have hR : R ≠ [] := fun e => by rw [e] at hl; simp at hl; omega
  obtain ⟨f, hf, hr⟩ := h.rest
  have hst := step_T hR hf hs hr
  have hq : leftN s R (fd (R.take s)) ≤ n ∧ 1 ≤ leftN s R (fd (R.take s)) ∧ (tokOf R (fd (R.take s))).d.length ≤ leftN s R (fd (R.take s)) := by
    unfold leftN tokOf
    cases fd (R.take s) with
    | none => simp only [List.length_take]; omega
    | some i => simp only [List.length_take, List.length_nil]; omega
  have hlen := h.len
  have hjl := joinT_length (ps.map (·.1)) (tokOf R (fd (R.take s)))
  rw [← hm, List.length_map, List.length_map] at hjl
  have hdl := joinT_dl (x := tokOf R (fd (R.take s))) (q := n0 - n) (ts := ps.map (·.1)) (fun t ht => by
    obtain ⟨p, hp, rfl⟩ := List.mem_map.1 ht
    have := h.dl p hp
    omega)
  rw [← hm] at hdl
  have hfit := h.fit
  have hmx := h.max
  refine ⟨⟨hlb, rfl, hw, src_drop h.src hq.1 h.fit, by omega, by omega, fun e => ?_, ?_, by omega, fun p hp => ?_⟩, by omega⟩
  · have := h.nil (shf_none e); omega
  · rw [hm]; exact hst
  · have h1 := hdl p.1 (List.mem_map.2 ⟨p, hp, rfl⟩)
    omega
theorem row_down {w : World} {N N' n : Nat} {e : TypeId} {v : Value} {xs : List Value} (h : w.ownsRow N' e 3 v n xs) (hN : N ≤ N') : w.ownsRow N e 3 v n xs := by
  obtain ⟨h1, h2⟩ := h
  refine ⟨h1, ?_⟩
  rcases h2 with h | ⟨g, cap, cur, rfl, hb, r⟩
  · exact .inl h
  · exact .inr ⟨g, cap, cur, rfl, Nat.le_trans hN hb, r⟩
theorem drop_len (R : List Nat) (s : Nat) : R.drop (R.take s).length = R.drop s := by
  rcases Nat.le_total s R.length with h | h
  · rw [List.length_take, Nat.min_eq_left h]
  · rw [List.length_take, Nat.min_eq_right h, List.drop_of_length_le (Nat.le_refl _), List.drop_of_length_le h]
theorem OwnT.down {w : World} {N N' : Nat} {v : Value} {ps : List TV} (h : OwnT w N' v ps) (hN : N ≤ N') : OwnT w N v ps := ⟨row_down h.row hN, fun p hp => De.buf_down (h.buf p hp) hN, h.off, h.apart⟩
set_option maxHeartbeats 6400000 in
theorem make_c (w : World) (s k l m c : Nat) (a : Option Addr) (bs : List Blk) (ad : Option Addr) (n cd : Nat) (D : List Nat) (hb : IsBks .u32 w (.slice a m c) bs) (hml : bs.length = m) (hch : checkE s k l bs = 0) (hs : SrcB w ad n D) (hc : n ≤ cd) (hcm : cd ≤ 9223372036854775807) (hnil : ad = none → n = 0) (hn : n ≤ 8192) (hT : Tbl w) (hF : Fst w) :
    Calls Tryd.prog 23 #[sigV s k l (.slice a m c), .slice ad n cd] w (MakeP w (mkA (fdOf s k l bs) s D)) := by
  have hf : fitsE s k l = 0 := by
    unfold checkE at hch
    split at hch
    · exact hch
    · rename_i h; simpa using h
  have hz := fitsE_zero hf
  have hmn : (m : Int) = cntZ l s := by
    unfold checkE at hch
    rw [if_neg (by simpa using hf)] at hch
    split at hch
    · cases hch
    · rename_i h; rw [← hml]; omega
  have h4 : m ≤ 4096 := by omega
  have hs1 : 1 ≤ s := by omega
  have hs2 : s ≤ 4096 := by omega
  have hk : k ≤ 32 := by omega
  have HC := hide (fun (u : World) (hu : Below w.heap.size w u) => check_c u s k l (.slice a m c) bs (hb.below hu) (by omega) (by omega))
  rw [hch] at HC
  have HIx := hide (fun (u : World) (hu : Below w.heap.size w u) => index_c u s k l m c a bs (hb.below hu) hml hch)
  have HTF := hide (fun (u : World) (hu : Below w.heap.size w u) => (⟨tbl_keep hT hu (Nat.le_refl _), fst_keep hF hu (Nat.le_refl _), hs.below hu⟩ : Tbl u ∧ Fst u ∧ SrcB u ad n D))
  have HFa := hide (fun (u : World) (T M N q cq : Nat) (aq : Option Addr) (P : List Nat) (es : List (Value × Value)) h1 h2 h4 h5 h6 h7 h8 => find_any u T M N k (wkN P) q cq aq P es (grp s l bs bs.length) h1 h2 (wkN_lt P) hk h4 h5 h6 h7 h8 (by have := grp_length s l bs bs.length (wkN P); omega))
  have HFd := hide (fun (P : List Nat) (u u' : World) (e : Ending) (h : FindP u (grp s l bs bs.length (wkN P)) P.length ⟨wkN P, cutL k (sha P)⟩ e u') => find_det h)
  clear hf hz hmn hch hb hT hF hs
  unfold sigV at HC HIx ⊢
  have HS := hide (heap_last w (.cells #[.int .i64 (s : Int), .int .i64 (k : Int), .int .i64 (l : Int), .slice a m c] 50))
  have HB := hide (below_new w (.cells #[.int .i64 (s : Int), .int .i64 (k : Int), .int .i64 (l : Int), .slice a m c] 50))
  obtain ⟨fd, hfdE⟩ : ∃ fd, fd = fdOf s k l bs := ⟨_, rfl⟩
  rw [← hfdE] at HFd ⊢
  clear hfdE
  go_enter Tryd.func23, Tryd.ntmps23
  go_wp2_with fail
  generalize (w.alloc (.cells #[.int .i64 (s : Int), .int .i64 (k : Int), .int .i64 (l : Int), .slice a m c] 50)) = w1 at *
  (with_reducible refine Calls.mono (HC.out w1 HB.out) ?_)
  rintro e w2 ⟨rfl, hb2⟩
  have HS2 := hide (below_blk hb2 (heap_lt HS.out) HS.out)
  have HB2 := hide (keepB hb2 (Nat.le_refl _) HB.out)
  clear hb2 HC HS HB
  obtain ⟨c0, c1, c2, c3⟩ := Sig4.cells (T := 50) HS2.out
  go_wp2_with fail
  (with_reducible refine Calls.mono (HIx.out w2 HB2.out) ?_)
  rintro e w5 ⟨rfl, hTb5, ⟨es, hTab5⟩, hb5⟩
  have HS5 := hide (below_blk hb5 (heap_lt HS2.out) HS2.out)
  have HB5 := hide (keepB hb5 (Nat.le_refl _) HB2.out)
  have HTb5 := hide hTb5
  have HTab5 := hide hTab5
  clear hb5 hTb5 hTab5 HS2 HB2 HIx c0 c1 c2 c3
  generalize w2.heap.size = T2 at *
  obtain ⟨c0, c1, c2, c3⟩ := Sig4.cells (T := 50) HS5.out
  have HO := hide (open_c w5 ad n cd s D (HTF.out w5 HB5.out).2.2 hc (by omega) hs2)
  go_wp2_with fail
  refine HO.out.mono ?_
  rintro e w6 ⟨rfl, hb6⟩
  have HTb6 := hide (below_blk hb6 (heap_lt HTb5.out) HTb5.out)
  have HTab6 := hide (HTab5.out.below hb6)
  have HB6 := hide (keepB hb6 (Nat.le_refl _) HB5.out)
  clear hb6 HS5 HTb5 HTab5 HB5 HO c0 c1 c2 c3
  have hz5 : ∀ (q r e : Nat) (x : Option Addr) (P : List Nat), (winC q x r e P).length = 5 := fun q r e x P => rfl
  unfold winV
  go_wp2_with (refine wpList_store_all rfl 120 _ _ rfl w6.heap.size (winC s ad n cd (D.take s)).toArray _ 120 rfl rfl (heap_last _ _) (by rw [List.size_toArray, hz5]; rfl) (by rw [List.size_toArray, hz5]; kernel_rfl) (all_oneCell_toArray (win_one _ _ _ _ _)) ?_)
  intro w7 H7 HG7
  refine of_hid ?_
  have hb7 := belowG (below_new w6 (.cells #[.int .i64 0, .slice none 0 0, .int .i64 0, .int .u16 0, .int .u16 0] 120)) HG7.out (Nat.le_refl _) (by simp)
  have HI7 : Hid (LI w6 s fd (mkA fd s D) n (.slice none 0 0) (.pointer (some ⟨w6.heap.size, 0, none⟩)) [] w6.heap.size n cd ad D w7) :=
    hide (LI.start ⟨OwnT.nil _ _, fun _ => rfl, hb7, Nat.le_refl _, heap_lt H7.out, (fun e => by cases e), (fun p hp => by cases hp)⟩ H7.out (HTF.out w6 HB6.out).2.2 hc hcm hnil)
  have HEnv : Hid (∀ u, Below w6.heap.size w6 u → u.heap[T2 + 1 + 1]? = some (.cells #[.int .i64 (k : Int), .map (some (T2 + 1))] 166 (0, 0)) ∧ Tab u (T2 + 1) (T2 + 3) es (grp s l bs bs.length) ∧ Tbl u ∧ Fst u) := hide (fun u hu =>
    ⟨below_blk hu (heap_lt HTb6.out) HTb6.out, HTab6.out.below hu, (HTF.out u (keepB hu (Nat.le_refl _) HB6.out)).1, (HTF.out u (keepB hu (Nat.le_refl _) HB6.out)).2.1⟩)
  clear hb7 H7 HG7 HTb6 HTab6 HTF
  obtain ⟨fin, hfin⟩ : ∃ fin, fin = mkA fd s D := ⟨_, rfl⟩
  rw [← hfin] at HI7
  have Hfin := hide hfin
  clear hfin
  go_wp2_with fail
  go_loopw [8, 9] (fun x b wr => ∃ v ps B r cr ar R, v = x ∧ LI w6 s fd fin n v b ps B r cr ar R wr) (fun _ b wr => leftOf b wr)
  case atStart => exact ⟨_, [], _, _, _, _, _, rfl, HI7.out⟩
  case round =>
    clear HI7
    obtain ⟨v, ps, B, r, cr, ar, R, rfl, hI⟩ := hrel
    have hbq := hI.hb
    subst hbq
    have HI := hide hI
    have Hlf := hide (leftOf_is hI.win)
    clear hI
    obtain ⟨c0, c1, c2, c3, c4⟩ := HI.out.cs
    by_cases hr : r = 0
    · subst hr
      have HP : Hid (MakeP w (mkA fd s D) (.returned (.tuple #[v, .int .i64 0])) wr) := hide (by
        obtain ⟨f, hf, hr⟩ := HI.out.rest
        obtain rfl : R = [] := List.length_eq_zero_iff.1 HI.out.src.1
        rw [mkT_nil] at hr
        rw [← Hfin.out]
        exact ⟨v, ps, rfl, hr, OwnT.down HI.out.lb.own HB6.out.size, HB6.out.trans (HI.out.lb.below.mono HB6.out.size)⟩)
      clear HI c2 c3 c4
      go_wp2
      go_ret2
      exact HP.out
    · have d1 : decide ((0 : Int) < (r : Int)) = true := by simp; omega
      have d2 : decide (0 < r) = true := by simp; omega
      have hr8 : r ≤ 8192 := by have := HI.out.len; omega
      cases hfd : fd (R.take s) with
      | none =>
        have HFs : Hid (∀ (u : World), LI w6 s fd fin n v (.pointer (some ⟨B, 0, none⟩)) ps B r cr ar R u → Calls Tryd.prog 51 #[.pointer (some ⟨T2 + 1 + 1, 0, none⟩), .int .u32 ((wkN (R.take s) : Nat) : Int), .slice ar (R.take s).length cr] u fun e u' => e = .returned (.tuple #[.int .i64 0, .bool false]) ∧ Below u.heap.size u u') := hide (fun u h => by
          obtain ⟨h1, h2, h3, h4⟩ := HEnv.out u h.lb.below
          have hsu := h.src.below h.lb.below
          have hql : (R.take s).length ≤ r := by rw [List.length_take, h.src.1]; omega
          have hq := src_take (q := (R.take s).length) hsu hql
          rw [show R.take (R.take s).length = R.take s from by rw [List.length_take]; exact take_min R s _ rfl] at hq
          refine (HFa.out u (T2 + 1 + 1) (T2 + 1) (T2 + 3) (R.take s).length cr ar (R.take s) es h1 h2 hq (by have := h.fit; omega) (by omega) h3 h4).mono ?_
          intro e u' he
          have := HFd.out _ _ _ _ he
          rw [hfd] at this
          exact this)
        have HBy := hide (fun (u : World) => bytes_c u s ar r cr (R.take s) (by rw [List.length_take, HI.out.src.1]; omega) HI.out.fit)
        have HVl := hide (fun (u : World) => value_b (R.take s).length (R.take s) u)
        unfold winV at HBy
        have HJ : Hid (∀ (u : World), LI w6 s fd fin n v (.pointer (some ⟨B, 0, none⟩)) ps B r cr ar R u → Calls Tryd.prog 53 #[v, .agg #[.int .i64 0, .int .i64 0, .slice ar 1 cr]] u (JoinP u w6.heap.size v ps ⟨0, 0, R.take 1⟩)) := hide (fun u h => join_c u w6.heap.size v ps ⟨0, 0, R.take 1⟩ ar 1 cr h.lb.own h.lb.below.size (src_take (h.src.below h.lb.below) (by omega)) (by have := h.fit; omega) h.max (fun e => absurd (h.nil e) (by omega)) h.lb.nil (by have := h.len; omega) (fun p hp => by have := h.dl p hp; omega) (by omega))
        have HNx : Hid (∀ u, Below w6.heap.size w6 u → Calls Tryd.prog 55 #[.agg (winC s ar r cr (R.take s)).toArray] u fun e w' => e = .returned (.agg (winC s (shf ar cr 1) (r - 1) (cr - 1) ((R.drop 1).take s)).toArray) ∧ Below u.heap.size u w') := hide (fun u hu => by
          have hsu := HI.out.src.below hu
          exact on_c u s r cr ar R hsu HI.out.fit (by omega) (by omega) hs2 hs1)
        have hsl := fun u : World => slice_h1 u ar r cr (by have := HI.out.fit; omega)
        have Hfd := hide hfd
        have hrf := HI.out.fit
        have HWin : Hid (∀ (u : World), LI w6 s fd fin n v (.pointer (some ⟨B, 0, none⟩)) ps B r cr ar R u → WinAt u B s ar r cr (R.take s)) := hide (fun u h => h.win)
        obtain ⟨P, hP⟩ : ∃ P, P = R.take s := ⟨_, rfl⟩
        rw [← hP] at HFs HBy HVl HNx HWin
        have HPe := hide hP
        clear hfd hP c2 c3 c4
        go_wp2_with fail
        refine wp_region_keep (fun u => LI w6 s fd fin n v (.pointer (some ⟨B, 0, none⟩)) ps B r cr ar R u) (by kernel_rfl) (by kernel_rfl) (HI.out.up (Below.refl _ _).drew) ?_
        repeat (first
          | (refine keep_step (v := .agg (winC s ar r cr P).toArray) (by rfl) (fun u K hS hK => kUpon_load_all 120 _ rfl B (winC s ar r cr P).toArray 120 (0, 0) rfl (HWin.out u hS) _ Tryd.underlying120 rfl (by rw [List.size_toArray, hz5]; kernel_rfl) (hK _ hS)) ?_
             simp only [Act.put, List.setIfInBounds_toArray, List.set_cons_zero, List.set_cons_succ])
          | (refine keep_step (v := ?_) (by rfl) (fun u K hS hK => ?_) ?_
             rotate_left
             · obtain ⟨c0, c1, c2, c3, c4⟩ := (HWin.out u hS).cs
               (go_simp; first
                 | (go_at_call 46; (with_reducible refine Calls.mono (HVl.out _) ?_); rintro e u2 ⟨rfl, hu⟩; exact hK _ (hS.up hu))
                 | (go_at_call 52; (with_reducible refine Calls.mono (HBy.out _) ?_); rintro e u2 ⟨rfl, hu⟩; exact hK _ (hS.up hu))
                 | (go_at_call 51; (with_reducible refine Calls.mono (HFs.out _ hS) ?_); rintro e u2 ⟨rfl, hu⟩; exact hK _ (hS.up hu))
                 | (with_reducible exact hK _ hS))
             simp only [Act.put, List.setIfInBounds_toArray, List.set_cons_zero, List.set_cons_succ]))
        refine keep_nil (fun w8 hS8 => ?_)
        have HI8 := hide hS8
        clear hS8 HI HFs HBy HVl
        obtain ⟨c0, c1, c2, c3, c4⟩ := (HWin.out _ HI8.out).cs
        go_wp2_with fail
        refine (HJ.out _ HI8.out).mono ?_
        intro e w9 hj
        obtain ⟨v', ps', rfl, hm, hlb, hbk⟩ := HI8.out.lb.join hj
        have HM := hide hm
        have HL9 := hide hlb
        have HW9 := hide (show WinAt w9 B s ar r cr P from hbk.trans (HWin.out _ HI8.out))
        obtain ⟨va, vn, vc, hv'⟩ : ∃ va vn vc, v' = .slice va vn vc ∧ vn = ps'.length := by
          rcases hlb.own.form with ⟨h1, h2⟩ | ⟨g, cap, h1, _⟩
          · exact ⟨none, 0, 0, h1, by rw [h2]; rfl⟩
          · exact ⟨_, _, cap, h1, rfl⟩
        obtain ⟨rfl, hvn⟩ := hv'
        have Hvn := hide hvn
        clear hvn
        clear hj hm hlb hbk HJ c0 c1 c2 c3 c4
        go_wp2_with (refine wpList_load_all rfl 120 _ rfl B (winC s ar r cr P).toArray 120 (0, 0) rfl HW9.out _ Tryd.underlying120 rfl (by rw [List.size_toArray, hz5]; kernel_rfl) ?_)
        (with_reducible refine Calls.mono (HNx.out w9 HL9.out.below) ?_)
        rintro e w10 ⟨rfl, hb10⟩
        have HL10 := hide (HL9.out.up hb10)
        have HW10 := hide (HW9.out.up hb10)
        clear hb10 HL9 HW9 HNx
        have HDl : Hid (vn ≤ 8192) := hide (by
          have h1 := joinT_length (ps.map (·.1)) (⟨0, 0, R.take 1⟩)
          rw [← HM.out, List.length_map, List.length_map] at h1
          have := HI8.out.len
          have := Hvn.out
          omega)
        have e3 : decide ((8192 : Int) < (vn : Int)) = false := by have := HDl.out; simp; omega
        have e4 : decide (8192 < vn) = false := by have := HDl.out; simp; omega
        obtain ⟨X, hX⟩ : ∃ X, X = winC s (shf ar cr 1) (r - 1) (cr - 1) ((R.drop 1).take s) := ⟨_, rfl⟩
        have hX5 : X.length = 5 := by rw [hX]; rfl
        have hX1 : ∀ v ∈ X, v.oneCell' = true := by rw [hX]; exact win_one _ _ _ _ _
        rw [← hX]
        have HX := hide hX
        clear hX
        go_wp2_with (refine wpList_store_all rfl 120 _ _ rfl B X.toArray _ 120 rfl rfl HW10.out (by rw [List.size_toArray, hX5]; rfl) (by rw [List.size_toArray, hX5]; kernel_rfl) (all_oneCell_toArray hX1) ?_)
        intro w11 H11 HG11
        refine of_hid ?_
        have HL11 := hide (HL10.out.store HG11.out)
        clear HL10 HW10 HG11
        go_wp2_with (first
          | (refine wpList_load_all rfl 120 _ rfl B X.toArray 120 (0, 0) rfl H11.out _ Tryd.underlying120 rfl (by rw [List.size_toArray, hX5]; kernel_rfl) ?_)
          | (refine wpList_store_all rfl 120 _ _ rfl w11.heap.size X.toArray _ 120 rfl rfl (heap_last _ _) (by rw [List.size_toArray, hX5]; rfl) (by rw [List.size_toArray, hX5]; kernel_rfl) (all_oneCell_toArray hX1) ?_))
        intro w12 H12 HG12
        refine of_hid ?_
        have hgn : w11.grownBy w12 (some w11.heap.size) := by
          have h0 := HG12.out
          have hb0 := below_new w11 (.cells #[.int .i64 0, .slice none 0 0, .int .i64 0, .int .u16 0, .int .u16 0] 120)
          exact ⟨h0.os, h0.tape, h0.output, Nat.le_trans hb0.size h0.size, fun q hq hne => (h0.block q (Nat.lt_of_lt_of_le hq hb0.size) hne).trans (hb0.block q hq)⟩
        have HNX := hide (LI.next HI8.out hs1 (by omega) (by rw [Hfd.out]; exact HM.out) (HL11.out.next hgn (heap_lt H12.out)) (by
          rw [Hfd.out]
          have h0 := H12.out
          rw [HX.out] at h0
          exact h0))
        clear H11 HL11 H12 HG12 hgn HI8 HM
        go_wp2
        go_roundw
        case rel => exact ⟨_, ps', _, _, _, _, _, rfl, HNX.out.1⟩
        case measure =>
          have h1 := leftOf_is HNX.out.1.win
          have h2 := HNX.out.2
          show leftOf (.pointer (some ⟨_, 0, none⟩)) _ < leftOf (.pointer (some ⟨B, 0, none⟩)) wr
          rw [Hlf.out, h1]
          exact h2
      | some i =>
        have HFs : Hid (∀ (u : World), LI w6 s fd fin n v (.pointer (some ⟨B, 0, none⟩)) ps B r cr ar R u → Calls Tryd.prog 51 #[.pointer (some ⟨T2 + 1 + 1, 0, none⟩), .int .u32 ((wkN (R.take s) : Nat) : Int), .slice ar (R.take s).length cr] u fun e u' => e = .returned (.tuple #[.int .i64 (i : Int), .bool true]) ∧ Below u.heap.size u u') := hide (fun u h => by
          obtain ⟨h1, h2, h3, h4⟩ := HEnv.out u h.lb.below
          have hsu := h.src.below h.lb.below
          have hql : (R.take s).length ≤ r := by rw [List.length_take, h.src.1]; omega
          have hq := src_take (q := (R.take s).length) hsu hql
          rw [show R.take (R.take s).length = R.take s from by rw [List.length_take]; exact take_min R s _ rfl] at hq
          refine (HFa.out u (T2 + 1 + 1) (T2 + 1) (T2 + 3) (R.take s).length cr ar (R.take s) es h1 h2 hq (by have := h.fit; omega) (by omega) h3 h4).mono ?_
          intro e u' he
          have := HFd.out _ _ _ _ he
          rw [hfd] at this
          exact this)
        have HBy := hide (fun (u : World) => bytes_c u s ar r cr (R.take s) (by rw [List.length_take, HI.out.src.1]; omega) HI.out.fit)
        have HVl := hide (fun (u : World) => value_b (R.take s).length (R.take s) u)
        unfold winV at HBy
        have HJ : Hid (∀ (u : World), LI w6 s fd fin n v (.pointer (some ⟨B, 0, none⟩)) ps B r cr ar R u → Calls Tryd.prog 53 #[v, .agg #[.int .i64 (i : Int), .int .i64 1, .slice none 0 0]] u (JoinP u w6.heap.size v ps ⟨(i : Int), 1, []⟩)) := hide (fun u h => join_c u w6.heap.size v ps ⟨(i : Int), 1, []⟩ none 0 0 h.lb.own h.lb.below.size (SrcB.nil u none) (Nat.le_refl _) (by omega) (fun _ => rfl) h.lb.nil (by have := h.len; omega) (fun p hp => by have := h.dl p hp; omega) (by omega))
        have HNx : Hid (∀ u, Below w6.heap.size w6 u → Calls Tryd.prog 54 #[.agg (winC s ar r cr (R.take s)).toArray] u fun e w' => e = .returned (.agg (winC s (shf ar cr (R.take s).length) (r - (R.take s).length) (cr - (R.take s).length) ((R.drop s).take s)).toArray) ∧ Below u.heap.size u w') := hide (fun u hu => by
          have hsu := HI.out.src.below hu
          exact behind_c u s ar r cr R hsu HI.out.fit (by omega) hs2)
        have Hfd := hide hfd
        have hrf := HI.out.fit
        have HWin : Hid (∀ (u : World), LI w6 s fd fin n v (.pointer (some ⟨B, 0, none⟩)) ps B r cr ar R u → WinAt u B s ar r cr (R.take s)) := hide (fun u h => h.win)
        obtain ⟨P, hP⟩ : ∃ P, P = R.take s := ⟨_, rfl⟩
        rw [← hP] at HFs HBy HVl HNx HWin
        have HPe := hide hP
        clear hfd hP c2 c3 c4
        go_wp2_with fail
        refine wp_region_keep (fun u => LI w6 s fd fin n v (.pointer (some ⟨B, 0, none⟩)) ps B r cr ar R u) (by kernel_rfl) (by kernel_rfl) (HI.out.up (Below.refl _ _).drew) ?_
        repeat (first
          | (refine keep_step (v := .agg (winC s ar r cr P).toArray) (by rfl) (fun u K hS hK => kUpon_load_all 120 _ rfl B (winC s ar r cr P).toArray 120 (0, 0) rfl (HWin.out u hS) _ Tryd.underlying120 rfl (by rw [List.size_toArray, hz5]; kernel_rfl) (hK _ hS)) ?_
             simp only [Act.put, List.setIfInBounds_toArray, List.set_cons_zero, List.set_cons_succ])
          | (refine keep_step (v := ?_) (by rfl) (fun u K hS hK => ?_) ?_
             rotate_left
             · obtain ⟨c0, c1, c2, c3, c4⟩ := (HWin.out u hS).cs
               (go_simp; first
                 | (go_at_call 46; (with_reducible refine Calls.mono (HVl.out _) ?_); rintro e u2 ⟨rfl, hu⟩; exact hK _ (hS.up hu))
                 | (go_at_call 52; (with_reducible refine Calls.mono (HBy.out _) ?_); rintro e u2 ⟨rfl, hu⟩; exact hK _ (hS.up hu))
                 | (go_at_call 51; (with_reducible refine Calls.mono (HFs.out _ hS) ?_); rintro e u2 ⟨rfl, hu⟩; exact hK _ (hS.up hu))
                 | (with_reducible exact hK _ hS))
             simp only [Act.put, List.setIfInBounds_toArray, List.set_cons_zero, List.set_cons_succ]))
        refine keep_nil (fun w8 hS8 => ?_)
        have HI8 := hide hS8
        clear hS8 HI HFs HBy HVl
        obtain ⟨c0, c1, c2, c3, c4⟩ := (HWin.out _ HI8.out).cs
        go_wp2_with fail
        refine (HJ.out _ HI8.out).mono ?_
        intro e w9 hj
        obtain ⟨v', ps', rfl, hm, hlb, hbk⟩ := HI8.out.lb.join hj
        have HM := hide hm
        have HL9 := hide hlb
        have HW9 := hide (show WinAt w9 B s ar r cr P from hbk.trans (HWin.out _ HI8.out))
        obtain ⟨va, vn, vc, hv'⟩ : ∃ va vn vc, v' = .slice va vn vc ∧ vn = ps'.length := by
          rcases hlb.own.form with ⟨h1, h2⟩ | ⟨g, cap, h1, _⟩
          · exact ⟨none, 0, 0, h1, by rw [h2]; rfl⟩
          · exact ⟨_, _, cap, h1, rfl⟩
        obtain ⟨rfl, hvn⟩ := hv'
        have Hvn := hide hvn
        clear hvn
        clear hj hm hlb hbk HJ c0 c1 c2 c3 c4
        go_wp2_with (refine wpList_load_all rfl 120 _ rfl B (winC s ar r cr P).toArray 120 (0, 0) rfl HW9.out _ Tryd.underlying120 rfl (by rw [List.size_toArray, hz5]; kernel_rfl) ?_)
        (with_reducible refine Calls.mono (HNx.out w9 HL9.out.below) ?_)
        rintro e w10 ⟨rfl, hb10⟩
        have HL10 := hide (HL9.out.up hb10)
        have HW10 := hide (HW9.out.up hb10)
        clear hb10 HL9 HW9 HNx
        have HDl : Hid (vn ≤ 8192) := hide (by
          have h1 := joinT_length (ps.map (·.1)) (⟨(i : Int), 1, []⟩)
          rw [← HM.out, List.length_map, List.length_map] at h1
          have := HI8.out.len
          have := Hvn.out
          omega)
        have e3 : decide ((8192 : Int) < (vn : Int)) = false := by have := HDl.out; simp; omega
        have e4 : decide (8192 < vn) = false := by have := HDl.out; simp; omega
        obtain ⟨X, hX⟩ : ∃ X, X = winC s (shf ar cr P.length) (r - P.length) (cr - P.length) ((R.drop s).take s) := ⟨_, rfl⟩
        have hX5 : X.length = 5 := by rw [hX]; rfl
        have hX1 : ∀ v ∈ X, v.oneCell' = true := by rw [hX]; exact win_one _ _ _ _ _
        rw [← hX]
        have HX := hide hX
        clear hX
        go_wp2_with (refine wpList_store_all rfl 120 _ _ rfl B X.toArray _ 120 rfl rfl HW10.out (by rw [List.size_toArray, hX5]; rfl) (by rw [List.size_toArray, hX5]; kernel_rfl) (all_oneCell_toArray hX1) ?_)
        intro w11 H11 HG11
        refine of_hid ?_
        have HL11 := hide (HL10.out.store HG11.out)
        clear HL10 HW10 HG11
        go_wp2_with (first
          | (refine wpList_load_all rfl 120 _ rfl B X.toArray 120 (0, 0) rfl H11.out _ Tryd.underlying120 rfl (by rw [List.size_toArray, hX5]; kernel_rfl) ?_)
          | (refine wpList_store_all rfl 120 _ _ rfl w11.heap.size X.toArray _ 120 rfl rfl (heap_last _ _) (by rw [List.size_toArray, hX5]; rfl) (by rw [List.size_toArray, hX5]; kernel_rfl) (all_oneCell_toArray hX1) ?_))
        intro w12 H12 HG12
        refine of_hid ?_
        have hgn : w11.grownBy w12 (some w11.heap.size) := by
          have h0 := HG12.out
          have hb0 := below_new w11 (.cells #[.int .i64 0, .slice none 0 0, .int .i64 0, .int .u16 0, .int .u16 0] 120)
          exact ⟨h0.os, h0.tape, h0.output, Nat.le_trans hb0.size h0.size, fun q hq hne => (h0.block q (Nat.lt_of_lt_of_le hq hb0.size) hne).trans (hb0.block q hq)⟩
        have HNX := hide (LI.next HI8.out hs1 (by omega) (by rw [Hfd.out]; exact HM.out) (HL11.out.next hgn (heap_lt H12.out)) (by
          rw [Hfd.out, show leftN s R (some i) = (R.take s).length from rfl, drop_len, ← HPe.out]
          have h0 := H12.out
          rw [HX.out] at h0
          exact h0))
        clear H11 HL11 H12 HG12 hgn HI8 HM
        go_wp2
        go_roundw
        case rel => exact ⟨_, ps', _, _, _, _, _, rfl, HNX.out.1⟩
        case measure =>
          have h1 := leftOf_is HNX.out.1.win
          have h2 := HNX.out.2
          show leftOf (.pointer (some ⟨_, 0, none⟩)) _ < leftOf (.pointer (some ⟨B, 0, none⟩)) wr
          rw [Hlf.out, h1]
          exact h2
end Go.Proofs.YtkinpbhbgeiflaaDoor.Dl
/- The head of layer 7's statements; delta.Whole. -/
namespace Go.Proofs.YtkinpbhbgeiflaaDoor.Dm
set_option linter.unusedVariables false
set_option linter.unusedSimpArgs false
set_option maxRecDepth 100000
open Go.ChangeShapes Go.WideShapes Go.ChangeAt Go.RowKit
open Go.Proofs.YtkinpbhbgeiflaaDoor.Wu Go.Proofs.YtkinpbhbgeiflaaDoor.Sm Go.Proofs.YtkinpbhbgeiflaaDoor.Sh Go.Proofs.YtkinpbhbgeiflaaDoor.Ba Go.Proofs.YtkinpbhbgeiflaaDoor.Bp Go.Proofs.YtkinpbhbgeiflaaDoor.Bq Go.Proofs.YtkinpbhbgeiflaaDoor.Bs Go.Proofs.YtkinpbhbgeiflaaDoor.Ka Go.Proofs.YtkinpbhbgeiflaaDoor.Kb Go.Proofs.YtkinpbhbgeiflaaDoor.Kc Go.Proofs.YtkinpbhbgeiflaaDoor.Kd Go.Proofs.YtkinpbhbgeiflaaDoor.Ke Go.Proofs.YtkinpbhbgeiflaaDoor.Kf Go.Proofs.YtkinpbhbgeiflaaDoor.Kh Go.Proofs.YtkinpbhbgeiflaaDoor.Kj Go.Proofs.YtkinpbhbgeiflaaDoor.Kk Go.Proofs.YtkinpbhbgeiflaaDoor.Kl Go.Proofs.YtkinpbhbgeiflaaDoor.Ko Go.Proofs.YtkinpbhbgeiflaaDoor.Da Go.Proofs.YtkinpbhbgeiflaaDoor.Db Go.Proofs.YtkinpbhbgeiflaaDoor.Dd Go.Proofs.YtkinpbhbgeiflaaDoor.De Go.Proofs.YtkinpbhbgeiflaaDoor.Dk Go.Proofs.YtkinpbhbgeiflaaDoor.Dl
open Go.Proofs.YtkinpbhbgeiflaaDoor.Sn (Fst fst_keep)
open Go.Proofs.YtkinpbhbgeiflaaDoor.Sxa (Tbl tbl_keep)
open Go.Proofs.YtkinpbhbgeiflaaDoor.Su (cutL Cnt)
theorem wk_ab : wkN [97, 98] = 19136707 := by decide +kernel
theorem wk_cd : wkN [99, 100] = 19529927 := by decide +kernel
theorem wk_xc : wkN [120, 99] = 22216923 := by decide +kernel
theorem mk_abcd (k : Nat) : mkB [97, 98, 99, 100] 2 k 2 = [⟨19136707, cutL k (sha [97, 98])⟩, ⟨19529927, cutL k (sha [99, 100])⟩] := by
  have e0 : piece [97, 98, 99, 100] 2 0 = [97, 98] := rfl
  have e1 : piece [97, 98, 99, 100] 2 1 = [99, 100] := rfl
  have er : List.range 2 = [0, 1] := rfl
  unfold mkB blkOf
  rw [er]
  simp only [List.map_cons, List.map_nil, e0, e1, wk_ab, wk_cd]
theorem fd_xc (X Y : List Nat) : fdOf 2 32 4 [⟨19136707, X⟩, ⟨19529927, Y⟩] [120, 99] = none := by
  have er : List.range 2 = [0, 1] := rfl
  unfold fdOf plcs
  simp only [List.length_cons, List.length_nil, Nat.zero_add, Nat.reduceAdd, er, wk_xc]
  simp [isIt, List.getD]
theorem fd_cd (X Y : List Nat) (hY : Y = cutL 32 (sha [99, 100])) : fdOf 2 32 4 [⟨19136707, X⟩, ⟨19529927, Y⟩] [99, 100] = some 1 := by
  have er : List.range 2 = [0, 1] := rfl
  unfold fdOf plcs
  rw [← hY]
  simp only [List.length_cons, List.length_nil, Nat.zero_add, Nat.reduceAdd, er, wk_cd]
  simp [isIt, List.getD]
theorem mk_xcd (fd : List Nat → Option Nat) (h1 : fd [120, 99] = none) (h2 : fd [99, 100] = some 1) : mkA fd 2 [120, 99, 100] = [⟨0, 0, [120]⟩, ⟨1, 1, []⟩] := by
  unfold mkA
  show mkT fd 2 3 [120, 99, 100] [] = _
  rw [mkT_none (by simp) h1]
  show mkT fd 2 2 [99, 100] _ = _
  rw [mkT_some (by simp) h2]
  show mkT fd 2 1 [] _ = _
  rw [mkT_nil]
  rfl
theorem src_const (w : World) (xs : List Nat) (f : Nat × Nat) (h8 : All8 xs) : SrcB (w.alloc (.cells (u8s xs) 5 f)) (some ⟨w.heap.size, 0, none⟩) xs.length xs :=
  ⟨rfl, h8, w.heap.size, 0, fun _ => rfl, fun i hi => by rw [Nat.zero_add]; exact row8 (heap_last _ _) hi⟩
/-- Two tokens, cell by cell. -/
theorem two_cells {w : World} {N : Nat} {v : Value} {ps : List TV} {t0 t1 : Tok} (h : OwnT w N v ps) (hp : ps.map (·.1) = [t0, t1]) : ∃ g cap a m c d1, v = .slice (some ⟨g, 0, none⟩) 2 cap ∧ w.cell? ⟨g, 0, none⟩ = some (.int .i64 t0.f) ∧ w.cell? ⟨g, 1, none⟩ = some (.int .i64 t0.c) ∧ w.cell? ⟨g, 2, none⟩ = some (.slice a m c) ∧ w.cell? ⟨g, 3, none⟩ = some (.int .i64 t1.f) ∧ w.cell? ⟨g, 4, none⟩ = some (.int .i64 t1.c) ∧ w.cell? ⟨g, 5, none⟩ = some d1 ∧ SrcB w a m t0.d := by
  match ps, hp with
  | [(t, d), (t', d')], hp =>
    simp only [List.map_cons, List.map_nil, List.cons.injEq, and_true] at hp
    obtain ⟨rfl, rfl⟩ := hp
    rcases h.form with ⟨_, h0⟩ | ⟨g, cap, hv, -, -, -, -, hr, -⟩
    · cases h0
    obtain ⟨a, c, hd, hs, -⟩ := (h.buf (t, d) (by simp)).form
    have c0 := hr 0 _ rfl
    have c1 := hr 1 _ rfl
    have c2 := hr 2 _ rfl
    have c3 := hr 3 _ rfl
    have c4 := hr 4 _ rfl
    have c5 := hr 5 _ rfl
    simp only at hd
    subst hd
    exact ⟨g, cap, a, _, c, d', hv, c0, c1, c2, c3, c4, c5, hs⟩
set_option maxHeartbeats 3200000 in
theorem tells_c (w : World) (hT : Tbl w) (hF : Fst w) : Calls Tryd.prog 21 #[] w fun e w' => e = .returned (.bool true) ∧ Below w.heap.size w w' := by
  have HTF := hide (fun (u : World) (hu : Below w.heap.size w u) => (⟨tbl_keep hT hu (Nat.le_refl _), fst_keep hF hu (Nat.le_refl _)⟩ : Tbl u ∧ Fst u))
  have kc := fun (w : World) (C : Array Value) (n c : Nat) => Lib.run_convert_bytes_const (P := Tryd.prog) w 22 5 C n c Tryd.underlying22 Tryd.underlying5
  have hs0 := src_const w [97, 98, 99, 100] (4, 5) (by intro z hz; simp at hz; omega)
  have HM := hide (make_ok (some ⟨w.heap.size, 0, none⟩) 4 4 [97, 98, 99, 100] 2 32 2 (w.alloc (.cells (u8s [97, 98, 99, 100]) 5 (4, 5))) hs0 (by omega) (by omega) (by decide) (by decide) (HTF.out _ (below_new _ _)).1 (HTF.out _ (below_new _ _)).2)
  have HB0 := hide (below_new w (.cells (u8s [97, 98, 99, 100]) 5 (4, 5)))
  simp only [Int.cast_ofNat_Int] at HM
  rw [mk_abcd 32] at HM
  obtain ⟨X, hX⟩ : ∃ X, X = cutL 32 (sha [97, 98]) := ⟨_, rfl⟩
  obtain ⟨Y, hY⟩ : ∃ Y, Y = cutL 32 (sha [99, 100]) := ⟨_, rfl⟩
  have hch : checkE 2 32 4 [⟨19136707, X⟩, ⟨19529927, Y⟩] = 0 := by
    have := mk_check [97, 98, 99, 100] 2 32 2 4 (by decide) (by decide)
    rw [mk_abcd 32, ← hX, ← hY] at this
    exact this
  have Hch := hide hch
  have HFin := hide (mk_xcd _ (fd_xc X Y) (fd_cd X Y hY))
  rw [← hX, ← hY] at HM
  clear hT hF hs0 hX hY hch
  go_enter Tryd.func21, Tryd.ntmps21
  go_wp2_with fail
  refine HM.out.mono ?_
  rintro e w1 ⟨v, rfl, ho, hb1⟩
  have HB1 := hide (keepB hb1 (Nat.le_refl _) HB0.out)
  have his := ho.is
  obtain ⟨_, av, cv, hv, hcv, hcm, _⟩ := his
  simp only [List.length_cons, List.length_nil, Nat.zero_add, Nat.reduceAdd] at hv hcv
  subst hv
  have HI := hide (fun (u : World) (hu : Below w1.heap.size w1 u) => ho.is.below hu)
  clear ho hb1 HM HB0
  unfold sigV
  have HS1 := hide (heap_last w1 (.cells #[.int .i64 2, .int .i64 32, .int .i64 4, .slice av 2 cv] 50))
  have Hn1 := hide (below_new w1 (.cells #[.int .i64 2, .int .i64 32, .int .i64 4, .slice av 2 cv] 50))
  have hs2 := src_const (w1.alloc (.cells #[.int .i64 2, .int .i64 32, .int .i64 4, .slice av 2 cv] 50)) [120, 99, 100] (3, 4) (by intro z hz; simp at hz; omega)
  have hn2 := keepB (below_new (w1.alloc (.cells #[.int .i64 2, .int .i64 32, .int .i64 4, .slice av 2 cv] 50)) (.cells (u8s [120, 99, 100]) 5 (3, 4))) (Nat.le_refl _) Hn1.out
  have htf := HTF.out _ (keepB hn2 (Nat.le_refl _) HB1.out)
  have HMk := hide (make_c ((w1.alloc (.cells #[.int .i64 2, .int .i64 32, .int .i64 4, .slice av 2 cv] 50)).alloc (.cells (u8s [120, 99, 100]) 5 (3, 4))) 2 32 4 2 cv av _ (some ⟨(w1.alloc (.cells #[.int .i64 2, .int .i64 32, .int .i64 4, .slice av 2 cv] 50)).heap.size, 0, none⟩) 3 3 [120, 99, 100] (HI.out _ hn2) rfl Hch.out hs2 (by omega) (by omega) (fun e => by cases e) (by omega) htf.1 htf.2)
  rw [HFin.out] at HMk
  unfold sigV at HMk
  simp only [Int.cast_ofNat_Int] at HMk
  have Hn2 := hide (keepB hn2 (Nat.le_refl _) HB1.out)
  have kc2 := kc (w1.alloc (.cells #[.int .i64 2, .int .i64 32, .int .i64 4, .slice av 2 cv] 50)) #[.int .u8 120, .int .u8 99, .int .u8 100] 3 3
  simp only [World.size_alloc] at kc2 HMk
  clear hs2 hn2 htf HFin HS1 Hn1 HI
  go_wp2_with fail
  refine HMk.out.mono ?_
  rintro e w3 ⟨v, ps, rfl, hps, ho, hb3⟩
  have HB3 := hide (keepB hb3 (Nat.le_refl _) Hn2.out)
  obtain ⟨g, cap, a, m, c, d1, rfl, c0, c1, c2, c3, c4, c5, hsd⟩ := two_cells ho hps
  have hm1 := hsd.1
  simp only [List.length_cons, List.length_nil, Nat.zero_add] at hm1
  subst hm1
  have hcv := conv_src (cap := c) hsd
  have hx : strN [120] = ⟨#[120]⟩ := rfl
  simp only at hcv c0 c1 c3 c4
  rw [hx] at hcv
  clear hb3 ho hps hsd hx HMk Hn2
  go_wp2
  go_ret
  exact ⟨rfl, HB3.out⟩
theorem OwnT.one {w1 : World} {N : Nat} {d : Value} {t : Tok} (hb : Buf w1 d N t.d) (hN : N ≤ w1.heap.size) : OwnT (w1.alloc (.cells #[.int .i64 t.f, .int .i64 t.c, d] 68)) N (.slice (some ⟨w1.heap.size, 0, none⟩) 1 1) [(t, d)] := by
  refine ⟨⟨rfl, .inr ⟨w1.heap.size, 1, _, rfl, hN, heap_last _ _, Nat.le_refl _, by unfold maxLen; omega, rfl, rfl⟩⟩, fun p hp => ?_, fun p hp => ?_, List.pairwise_singleton _ _⟩
  · rw [List.mem_singleton.1 hp]
    exact buf_up hb (below_new _ _)
  · rw [List.mem_singleton.1 hp]
    cases ho : d.ownBlock with
    | none => exact .inl rfl
    | some g => exact .inr (fun e => by injection e with e; have := (Kv.buf_own hb g ho).2; have e : g = w1.heap.size := e; omega)
def WholeP (w : World) (D : List Nat) (e : Ending) (w' : World) : Prop :=
  ∃ v ps, e = .returned v ∧ ps.map (·.1) = (if D.length = 0 then ([] : List Tok) else [⟨0, 0, D⟩]) ∧ OwnT w' w.heap.size v ps ∧ Below w.heap.size w w'
theorem whole_c (w : World) (ad : Option Addr) (m cd : Nat) (D : List Nat) (hs : SrcB w ad m D) (hn : ad = none → m = 0) (hm : m ≤ 1000000) :
    Calls Tryd.prog 32 #[.slice ad m cd] w (WholeP w D) := by
  have hl := hs.1
  by_cases h0 : m = 0
  · subst h0
    have HP : Hid (WholeP w D (.returned (.slice none 0 0)) w) := hide ⟨_, [], rfl, by rw [if_pos hl]; rfl, OwnT.nil _ _, Below.refl _ _⟩
    clear hl hs
    go_enter Tryd.func32, Tryd.ntmps32
    go_wp2
    go_ret
    exact HP.out
  · have e0 : ((m : Int) == 0) = false := by simpa using h0
    have e1 : (m == 0) = false := by simpa using h0
    have HC := hide (clone_any w ad m cd D hs hn (by omega))
    have Hl := hide (show ¬ D.length = 0 by omega)
    clear hl hs
    go_enter Tryd.func32, Tryd.ntmps32
    go_wp2_with fail
    refine HC.out.mono ?_
    rintro e w1 ⟨d, rfl, hbuf, hb1⟩
    obtain ⟨da, dc, hdv, -⟩ := hbuf.form
    have HP : Hid (WholeP w D (.returned (.slice (some ⟨w1.heap.size, 0, none⟩) 1 1)) (w1.alloc (.cells #[.int .i64 0, .int .i64 0, d] 68))) :=
      hide ⟨_, [(⟨0, 0, D⟩, d)], rfl, by rw [if_neg Hl.out]; rfl, OwnT.one (t := ⟨0, 0, D⟩) hbuf hb1.size, keepB (below_new _ _) (Nat.le_refl _) hb1⟩
    subst hdv
    clear hbuf hb1
    go_wp2
    go_ret
    exact HP.out
end Go.Proofs.YtkinpbhbgeiflaaDoor.Dm
/- law07's sums: the program's sums as the reference's. -/
namespace Go.Proofs.YtkinpbhbgeiflaaDoor.Dn
set_option linter.unusedVariables false
set_option linter.unusedSimpArgs false
set_option maxRecDepth 100000
open Go.ChangeShapes Go.WideShapes Go.ChangeAt Go.RowKit
open Go.Proofs.YtkinpbhbgeiflaaDoor.Wu Go.Proofs.YtkinpbhbgeiflaaDoor.Sm Go.Proofs.YtkinpbhbgeiflaaDoor.Sh Go.Proofs.YtkinpbhbgeiflaaDoor.Ba Go.Proofs.YtkinpbhbgeiflaaDoor.Bp Go.Proofs.YtkinpbhbgeiflaaDoor.Bs Go.Proofs.YtkinpbhbgeiflaaDoor.Ka Go.Proofs.YtkinpbhbgeiflaaDoor.Kb Go.Proofs.YtkinpbhbgeiflaaDoor.Kc Go.Proofs.YtkinpbhbgeiflaaDoor.Kd Go.Proofs.YtkinpbhbgeiflaaDoor.Ke Go.Proofs.YtkinpbhbgeiflaaDoor.Kf Go.Proofs.YtkinpbhbgeiflaaDoor.Rk Go.Proofs.YtkinpbhbgeiflaaDoor.Rh Go.Proofs.YtkinpbhbgeiflaaDoor.Rw Go.Proofs.YtkinpbhbgeiflaaDoor.Rb1 Go.Proofs.YtkinpbhbgeiflaaDoor.Kg Go.Proofs.YtkinpbhbgeiflaaDoor.Kq
attribute [local go_sem] kUpon_value kUpon_skip kUpon_enter
/-- A new block turned. -/
theorem _root_.Go.Proofs.YtkinpbhbgeiflaaDoor.Ke.MB.other {q : IntKind} {e T : TypeId} {w0 : World} {R S N : Nat} {rc : Obj} {sz cut len : Int} {v vo : Value} {bs : List Blk} {u u' : World} {k : Nat} (H : MB q e T w0 R S N rc sz cut len v vo bs u) (hg : u.grownBy u' (some k)) (hk : N ≤ k) (ho : ∀ g, vo.ownBlock = some g → g ≠ k) : MB q e T w0 R S N rc sz cut len v vo bs u' := by
  have h1 := H.hS
  have h2 := H.SN
  have h3 := H.RN
  exact ⟨belowG H.below hg (by omega) H.below.size, H.hS, H.SN, H.RN, H.RS, Nat.le_trans H.Nu hg.size, H.sig.kept hg (fun e => by injection e with e; omega), keepG hg (by omega) H.res, H.own.kept hg (fun e => ho _ e rfl)⟩
set_option maxHeartbeats 3200000 in
theorem plain_c (w : World) (sz cut len : Int) (a : Option Addr) (m c : Nat) (bs : List Blk) (hb : IsBks .u32 w (.slice a m c) bs) (hm : bs.length = m) (hbig : m ≤ 1000000) :
    Calls Tryd.prog 25 #[sigV sz cut len (.slice a m c)] w fun e w' => ∃ v, e = .returned (sigV sz cut len v) ∧ OwnBks .i64 133 w' (w.heap.size + 3) v bs ∧ Below w.heap.size w w' := by
  obtain ⟨a', c', g, off, hv, hmc, hcm, ha, hat⟩ := hb.at
  rw [hm] at hv hmc ha
  injection hv with h1 h2 h3
  subst h1 h3
  have Hat := hide hat
  have HM := hide hm
  clear hat h2 hb hm
  unfold sigV
  have H0 : Hid (MB .i64 133 61 w (w.heap.size + 1) (w.heap.size + 2) (w.heap.size + 3) (.cells #[.int .i64 0, .int .i64 0, .int .i64 0, .slice none 0 0] 61) sz cut len (.slice none 0 0) (.slice none 0 0) [] (((w.alloc (.cells #[.int .i64 sz, .int .i64 cut, .int .i64 len, .slice a m c] 50)).alloc (.cells #[.int .i64 0, .int .i64 0, .int .i64 0, .slice none 0 0] 61)).alloc (.cells #[.int .i64 sz, .int .i64 cut, .int .i64 len, .slice none 0 0] 61))) :=
    hide ⟨(((Below.refl w.heap.size w).alloc (Nat.le_refl _) _).alloc (by simp) _).alloc (by simp; omega) _, by omega, by omega, by omega, by omega, by simp, heap_3c w _ _ _, heap_old (heap_2b w _ _) _, OwnBks.nil _ _ _ _⟩
  go_enter Tryd.func25, Tryd.ntmps25
  go_wp2_with fail
  simp only [Nat.add_assoc, Nat.reduceAdd]
  generalize (((w.alloc (.cells #[.int .i64 sz, .int .i64 cut, .int .i64 len, .slice a m c] 50)).alloc (.cells #[.int .i64 0, .int .i64 0, .int .i64 0, .slice none 0 0] 61)).alloc (.cells #[.int .i64 sz, .int .i64 cut, .int .i64 len, .slice none 0 0] 61)) = w1 at *
  go_loopw [16] (fun j wr => ∃ i v, j = .int .i64 ((i : Nat) : Int) ∧ i ≤ m ∧ MB .i64 133 61 w (w.heap.size + 1) (w.heap.size + 2) (w.heap.size + 3) (.cells #[.int .i64 0, .int .i64 0, .int .i64 0, .slice none 0 0] 61) sz cut len v v (bs.take i) wr) (fun j _ => m - (intOf j).toNat)
  case atStart => exact ⟨0, _, rfl, Nat.zero_le _, H0.out⟩
  case round =>
    clear H0
    obtain ⟨i, v, rfl, hi, hM⟩ := hrel
    have HMb := hide hM
    clear hM
    by_cases hlt : i < m
    · obtain ⟨b, hb⟩ : ∃ b, bs[i]? = some b := ⟨bs[i]'(by rw [HM.out]; exact hlt), by rw [List.getElem?_eq_getElem]⟩
      obtain ⟨hbok, hr0⟩ := Hat.out i b hb
      have HR := hide (fun u (hu : Below w.heap.size w u) => range_below hr0 hu)
      have ha1 := ha (by omega)
      subst ha1
      have Htk : Hid (bs.take (i + 1) = bs.take i ++ [b]) := hide (by rw [List.take_add_one, hb]; rfl)
      have hbl : (bs.take i).length ≤ 1000000000 := by rw [List.length_take]; omega
      clear hr0 hb ha
      have d1 : decide ((i : Int) < (m : Int)) = true := by simpa using hlt
      have i1 : (0 : Int) ≤ (i : Int) := by omega
      have i2 : (i : Int) < (m : Int) := by omega
      have hsz : (blkC .u32 b).length = 33 := blkC_length hbok
      go_wp2_with (first
        | (refine wpList_load_part rfl 116 (.tmp 18) rfl g (off + i * 33) (blkC .u32 b) rfl (HR.out _ HMb.out.below) _ Tryd.underlying116 rfl (by rw [hsz]; kernel_rfl) ?_)
        | (refine wpList_store_all rfl 116 (.tmp 5) (.tmp 19) rfl wr.heap.size (blkC .u32 b).toArray _ 116 rfl rfl (heap_last _ _) (by rw [List.size_toArray, hsz]; rfl) (by rw [List.size_toArray, hsz]; kernel_rfl) (all_oneCell_toArray (blkC_one _ _)) ?_))
      intro w5 H5 HG5
      refine of_hid ?_
      have hws := HMb.out.Nu
      have hM5 := MB.other (HMb.out.up (below_new wr (.cells (blkC .u32 ⟨0, zeros 32⟩).toArray 116))) HG5.out hws (fun q hq => by have := (HMb.out.own.own q hq).2; omega)
      have HM5 := hide hM5
      clear hM5 HMb HG5 HR
      generalize wr.heap.size = B at *
      have hM6 := HM5.out.up (below_new w5 (.cells (blkC .i64 b).toArray 133))
      obtain ⟨v', w7, hrun, ho, hg, -⟩ := append_bk .i64 59 133 _ 40 Tryd.underlying59 info_ref (by omega) (by kernel_rfl) (w5.alloc (.cells (blkC .i64 b).toArray 133)) 59 v _ (bs.take i) w5.heap.size b 133 (0, 0) 1 hM6.own hM6.Nu hbok (heap_last _ _) hbl
      have HM7 := hide (hM6.append hg ho)
      have Hrun := hide hrun
      clear hrun
      obtain ⟨g', n', cap', hv'⟩ := own_some ho (by simp)
      subst hv'
      have Ho7 := hide ho
      obtain ⟨s0, s1, s2, s3⟩ := HM5.out.sig.cells
      obtain ⟨q0, q1, q2, q3⟩ := HM7.out.sig.cells
      have f3 := HM7.out.sig.free 3
      have c0 : w5.cell? ⟨B, 0, none⟩ = some (.int .u32 (b.w : Int)) := blk_cell H5.out rfl
      have hrs : w5.rangeAt B 1 (b8 b.s) := fun j x hx => blk_cell H5.out (by
        simp only [List.getElem?_toArray, blkC, Nat.add_comm 1 j, List.getElem?_cons_succ]
        exact hx)
      have hb32 : (b8 b.s).length = 32 := by rw [b8_length, hbok.2.1]
      have hw32 := hbok.1
      clear hM6 ho hg HM5 H5
      have Hbu : Hid (Tryd.prog.built 133 [(0, .int .i64 (b.w : Int)), (1, .agg (b8 b.s).toArray)] = some (blkC .i64 b).toArray) := hide (by rw [← u8s_b8]; exact built_ref b.w b.s hbok.2.1)
      iterate 22 (first | go_values | go_skip | go_guarded | go_step | go_upon)
      refine wpList_load_part rfl 84 (.tmp 25) rfl B 1 (b8 b.s) rfl hrs _ Tryd.underlying84 rfl (by rw [hb32]; kernel_rfl) ?_
      simp only [Act.put, List.setIfInBounds_toArray, List.set_cons_succ, List.set_cons_zero]
      refine wpList_build_at rfl 133 _ rfl [(0, .int .i64 (b.w : Int)), (1, .agg (b8 b.s).toArray)] rfl _ Hbu.out ?_
      simp only [Act.put, List.setIfInBounds_toArray, List.set_cons_succ, List.set_cons_zero]
      refine wpList_slice_to rfl 59 1 _ rfl [(0, blkV .i64 b)] rfl _ _ (one_ref w5 b hbok) ?_
      simp only [Act.put, List.setIfInBounds_toArray, List.set_cons_succ, List.set_cons_zero]
      refine wpList_append_at rfl 59 (.tmp 21) (.tmp 28) rfl Hrun.out ?_
      simp only [Act.put, List.setIfInBounds_toArray, List.set_cons_succ, List.set_cons_zero]
      go_wp2
      have HM8 := hide HM7.out.store
      rw [← Htk.out] at HM8
      go_roundw
      case rel => exact ⟨i + 1, _, by go_num, by omega, HM8.out⟩
      case measure => simp [intOf]; omega
    · obtain rfl : i = m := by omega
      have hall : bs.take i = bs := List.take_of_length_le (by rw [HM.out]; exact Nat.le_refl _)
      rw [hall] at HMb
      obtain ⟨av, cv, rfl⟩ : ∃ av cv, v = .slice av bs.length cv := by
        obtain ⟨_, av, cv, h, _⟩ := HMb.out.own.is
        exact ⟨av, cv, h⟩
      rw [HM.out] at HMb
      have d6 : decide ((i : Int) < (i : Int)) = false := by simp
      obtain ⟨r0, r1, r2, r3⟩ := HMb.out.sig.cells
      obtain ⟨s0, s1, s2, s3⟩ := sig_cells HMb.out.res
      obtain ⟨f0, f1, f2, f3⟩ := sig_free HMb.out.res
      have hneq : w.heap.size + 2 ≠ w.heap.size + 1 := by omega
      clear hi ha hall
      go_wp2
      have e := sig_set HMb.out.res (.int .i64 sz) (.int .i64 cut) (.int .i64 len) (.slice av i cv)
      have hg := grown_setCell (grown_setCell (grown_setCell (grown_setCell (World.grownBy.refl wr (some (w.heap.size + 1))) 0 (.int .i64 sz)) 1 (.int .i64 cut)) 2 (.int .i64 len)) 3 (.slice av i cv)
      have ho := HMb.out.own.kept hg (fun e => by have := (HMb.out.own.own _ e).1; omega)
      refine bodyPost_ret (v := sigV sz cut len (.slice av i cv)) ?_ rfl ⟨.slice av i cv, rfl, ho, below_set4 HMb.out.below (by omega) _ _ _ _⟩
      have hl := load_ref e
      simp [results, Tryd.results25, asAddr, hl]
end Go.Proofs.YtkinpbhbgeiflaaDoor.Dn
