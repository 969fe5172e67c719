/- block.Signature's Index. -/
import Derived.Test.YtheambpddpfcfaaDoorKj
import Derived.Test.YtheambpddpfcfaaDoorKl
import Derived.Test.YtheambpddpfcfaaDoorRh
import Derived.Test.YtheambpddpfcfaaDoorKf
namespace Go.Proofs.YtheambpddpfcfaaDoor.Kn
set_option linter.unusedVariables false
set_option linter.unusedSimpArgs false
set_option maxRecDepth 100000
open Go.ChangeShapes Go.WideShapes Go.ChangeAt Go.RowKit
open Go.Proofs.YtheambpddpfcfaaDoor.Wu Go.Proofs.YtheambpddpfcfaaDoor.Sm Go.Proofs.YtheambpddpfcfaaDoor.Sh Go.Proofs.YtheambpddpfcfaaDoor.Ba Go.Proofs.YtheambpddpfcfaaDoor.Bp Go.Proofs.YtheambpddpfcfaaDoor.Ka Go.Proofs.YtheambpddpfcfaaDoor.Kb Go.Proofs.YtheambpddpfcfaaDoor.Kc Go.Proofs.YtheambpddpfcfaaDoor.Kd Go.Proofs.YtheambpddpfcfaaDoor.Ke Go.Proofs.YtheambpddpfcfaaDoor.Rk Go.Proofs.YtheambpddpfcfaaDoor.Rh Go.Proofs.YtheambpddpfcfaaDoor.Rw Go.Proofs.YtheambpddpfcfaaDoor.Rb1 Go.Proofs.YtheambpddpfcfaaDoor.Kg Go.Proofs.YtheambpddpfcfaaDoor.Kh Go.Proofs.YtheambpddpfcfaaDoor.Ki Go.Proofs.YtheambpddpfcfaaDoor.Kj Go.Proofs.YtheambpddpfcfaaDoor.Km Go.Proofs.YtheambpddpfcfaaDoor.Kk Go.Proofs.YtheambpddpfcfaaDoor.Kl
attribute [local go_sem] kUpon_value kUpon_skip kUpon_enter
/-- What stays while the table grows: the signature in S, the table's own cells behind it. -/
structure Fix (w0 : World) (k : Nat) (sg : Array Value) (u : World) : Prop where
  below : Below w0.heap.size w0 u
  sig : u.heap[w0.heap.size]? = some (.cells sg 26 (0, 0))
  tbl : u.heap[w0.heap.size + 1 + 1]? = some (.cells #[.int .i64 (k : Int), .map (some (w0.heap.size + 1))] 117 (0, 0))
  size : w0.heap.size + 3 ≤ u.heap.size
theorem Fix.up {w0 : World} {k : Nat} {sg : Array Value} {u u' : World} (h : Fix w0 k sg u) (hb : Below u.heap.size u u') : Fix w0 k sg u' :=
  ⟨keepB hb (Nat.le_refl _) h.below, below_blk hb (heap_lt h.sig) h.sig, below_blk hb (heap_lt h.tbl) h.tbl, Nat.le_trans h.size hb.size⟩
theorem Fix.grown {w0 : World} {k : Nat} {sg : Array Value} {u u' : World} {row : Option Nat} (h : Fix w0 k sg u) (hg : u.grownBy u' row) (hr : ∀ g, row = some g → g = w0.heap.size + 1 ∨ w0.heap.size + 3 ≤ g) : Fix w0 k sg u' :=
  ⟨h.below.grown hg h.below.size (fun g hgr => by rcases hr g hgr with h | h <;> omega), (hg.block _ (heap_lt h.sig) (fun e => by rcases hr _ e.symm with h | h <;> omega)).trans h.sig, (hg.block _ (heap_lt h.tbl) (fun e => by rcases hr _ e.symm with h | h <;> omega)).trans h.tbl, Nat.le_trans h.size hg.size⟩
/-- The stages of the round's region. -/
def IT (w0 : World) (k : Nat) (sg : Array Value) (l : List (Value × Value)) (G : Nat → List Plc) (B x : Nat) (b : Blk) (v0 : Value) (p : Plc) : List Value → World → Prop
  | [], u => Fix w0 k sg u ∧ Tab u (w0.heap.size + 1) (w0.heap.size + 3) l G ∧ u.heap[B]? = some (.cells (blkC .u32 b).toArray 63 (0, 0)) ∧ OwnP u (w0.heap.size + 3) v0 (G x)
  | [c], u => (Fix w0 k sg u ∧ Tab u (w0.heap.size + 1) (w0.heap.size + 3) l G ∧ u.heap[B]? = some (.cells (blkC .u32 b).toArray 63 (0, 0)) ∧ OwnP u (w0.heap.size + 3) v0 (G x)) ∧ ∃ C, c = .slice (some ⟨C, 0, none⟩) 1 1 ∧ ∃ T f, u.heap[C]? = some (.cells (plcC p).toArray T f)
  | [_, v], u => Fix w0 k sg u ∧ Tab2 u (w0.heap.size + 1) (w0.heap.size + 3) l G x v (G x ++ [p]) ∧ u.heap[B]? = some (.cells (blkC .u32 b).toArray 63 (0, 0))
  | [_, _, _], u => Fix w0 k sg u ∧ ∃ l', l'.length ≤ l.length + 1 ∧ Tab u (w0.heap.size + 1) (w0.heap.size + 3) l' (fun y => if y = x then G x ++ [p] else G y)
  | _, _ => False
section
variable {w0 : World} {k : Nat} {sg : Array Value} {l : List (Value × Value)} {G : Nat → List Plc} {B x : Nat} {b : Blk} {v0 : Value} {p : Plc}
theorem IT.up {h : List Value} {u u' : World} (H : IT w0 k sg l G B x b v0 p h u) (hb : Below u.heap.size u u') : IT w0 k sg l G B x b v0 p h u' := by
  match h, H with
  | [], ⟨h1, h2, h3, h4⟩ => exact ⟨h1.up hb, h2.below hb, below_blk hb (heap_lt h3) h3, h4.below hb⟩
  | [_], ⟨⟨h1, h2, h3, h4⟩, C, h5, T, f, h6⟩ => exact ⟨⟨h1.up hb, h2.below hb, below_blk hb (heap_lt h3) h3, h4.below hb⟩, C, h5, T, f, below_blk hb (heap_lt h6) h6⟩
  | [_, _], ⟨h1, h2, h3⟩ => exact ⟨h1.up hb, h2.below hb, below_blk hb (heap_lt h3) h3⟩
  | [_, _, _], ⟨h1, l', h2, h3⟩ => exact ⟨h1.up hb, l', h2, h3.below hb⟩
theorem IT.fix {h : List Value} {u : World} (H : IT w0 k sg l G B x b v0 p h u) : Fix w0 k sg u := by
  match h, H with
  | [], H => exact H.1
  | [_], H => exact H.1.1
  | [_, _], H => exact H.1
  | [_, _, _], H => exact H.1
theorem IT.blk {h : List Value} {u : World} (H : IT w0 k sg l G B x b v0 p h u) (hl : h.length ≤ 2) : u.heap[B]? = some (.cells (blkC .u32 b).toArray 63 (0, 0)) := by
  match h, H with
  | [], H => exact H.2.2.1
  | [_], H => exact H.1.2.2.1
  | [_, _], H => exact H.2.2
  | [_, _, _], H => simp at hl
theorem IT.tab {h : List Value} {u : World} (H : IT w0 k sg l G B x b v0 p h u) (hl : h.length ≤ 1) : Tab u (w0.heap.size + 1) (w0.heap.size + 3) l G := by
  match h, H with
  | [], H => exact H.2.1
  | [_], H => exact H.1.2.1
  | [_, _], H => simp at hl
  | [_, _, _], H => simp at hl
end
theorem IT.drew {w0 : World} {k : Nat} {sg : Array Value} {l : List (Value × Value)} {G : Nat → List Plc} {B x : Nat} {b : Blk} {v0 : Value} {p : Plc} {u : World} (H : IT w0 k sg l G B x b v0 p [] u) : IT w0 k sg l G B x b v0 p [] u.drew := by
  obtain ⟨h1, h2, h3, h4⟩ := H
  exact ⟨⟨h1.below.drew, h1.sig, h1.tbl, h1.size⟩, ⟨h2.map, h2.low, h2.entry, h2.absent, h2.apart⟩, h3, h4⟩
theorem _root_.Go.Proofs.YtheambpddpfcfaaDoor.Kk.Tab.kept {w w' : World} {M N k : Nat} {l : List (Value × Value)} {G : Nat → List Plc} (h : Tab w M N l G) (hg : w.grownBy w' (some k)) (hp : ∀ p ∈ l, p.2.ownBlock = none ∨ p.2.ownBlock ≠ some k) (hk : M ≠ k) : Tab w' M N l G :=
  ⟨h.map.same (hg.block M h.map.lt (fun e => hk (by injection e))), h.low, fun p hp' => by obtain ⟨x, h1, h2, h3⟩ := h.entry p hp'; exact ⟨x, h1, h2, h3.kept hg (hp p hp')⟩, h.absent, h.apart⟩
theorem _root_.Go.Proofs.YtheambpddpfcfaaDoor.Kk.Tab.look {w : World} {M N : Nat} {l : List (Value × Value)} {G : Nat → List Plc} (h : Tab w M N l G) {x : Nat} (hx : x < 4294967296) {v : Value} (hv : ∀ u : World, u.heap[M]? = w.heap[M]? → (Instr.lookup 115 (.map (some M)) (.int .u32 (x : Int)) false).run Tryd.prog u = .ok v u)
    (u : World) (hu : MapL Tryd.prog 50 u M l) : (Instr.lookup 115 (.map (some M)) (.int .u32 (x : Int)) false).run Tryd.prog u = .ok v u := by
  have h0 := hv w rfl
  rcases h.map.look (t := 115) false law_u32 Tryd.underlying115 (zero_sl w) (key_u32 hx) with ⟨h1, hno⟩ | ⟨v1, hv1, h1⟩
  · rcases hu.look (t := 115) false law_u32 Tryd.underlying115 (zero_sl u) (key_u32 hx) with ⟨h2, _⟩ | ⟨v2, hv2, _⟩
    · rw [h1] at h0; injection h0 with h0; rw [h2, ← h0]
    · exact absurd rfl (hno _ hv2)
  · rcases hu.look (t := 115) false law_u32 Tryd.underlying115 (zero_sl u) (key_u32 hx) with ⟨h2, hno⟩ | ⟨v2, hv2, h2⟩
    · exact absurd rfl (hno _ hv1)
    · rw [h1] at h0; injection h0 with h0; rw [h2, hu.one hv2 hv1]; rw [← h0]
theorem ownP_some {w : World} {N : Nat} {v : Value} {ps : List Plc} (h : OwnP w N v ps) (hb : ps ≠ []) : ∃ g n cap, v = .slice (some ⟨g, 0, none⟩) n cap := by
  rcases h.2.2 with ⟨_, hn⟩ | ⟨g, cap, cur, rfl, _⟩
  · exact absurd (List.length_eq_zero_iff.1 hn) hb
  · exact ⟨_, _, _, rfl⟩
/-- What Index answers. -/
def IndexP (w : World) (k : Nat) (s l : Nat) (bs : List Blk) (e : Ending) (w' : World) : Prop :=
  e = .returned (.pointer (some ⟨w.heap.size + 1 + 1, 0, none⟩)) ∧ w'.heap[w.heap.size + 1 + 1]? = some (.cells #[.int .i64 (k : Int), .map (some (w.heap.size + 1))] 117 (0, 0)) ∧ (∃ es, Tab w' (w.heap.size + 1) (w.heap.size + 3) es (grp s l bs bs.length)) ∧ Below w.heap.size w w'
set_option maxHeartbeats 3200000 in
theorem index_c (w : World) (s k l m c : Nat) (a : Option Addr) (bs : List Blk) (hb : IsBks .u32 w (.slice a m c) bs) (hm : bs.length = m) (hch : checkE s k l bs = 0) :
    Calls Tryd.prog 24 #[sigV s k l (.slice a m c)] w (IndexP w k s l bs) := by
  have hf : fitsE s k l = 0 := by
    unfold checkE at hch
    split at hch
    · exact hch
    · rename_i h; simpa using h
  have hz := fitsE_zero hf
  have hmn : (m : Int) = cntZ l s := by
    unfold checkE at hch
    rw [if_neg (by simpa using hf)] at hch
    split at hch
    · cases hch
    · rename_i h; rw [← hm]; omega
  have h4 : m ≤ 4096 := by omega
  have Hmn := hide hmn
  have hs1 : 1 ≤ s := by omega
  have hs2 : s ≤ 4096 := by omega
  have hk : k ≤ 32 := by omega
  have hl : l ≤ 16777216 := by omega
  have HC := hide (fun (u : World) (hu : Below w.heap.size w u) => check_c u s k l (.slice a m c) bs (hb.below hu) (by omega) (by omega))
  rw [hch] at HC
  obtain ⟨a', c', g, off, hv, hmc, hcm, ha, hat⟩ := hb.at
  rw [hm] at hv hmc ha
  injection hv with h1 h2 h3
  subst h1 h3
  have Hat := hide hat
  have HM := hide hm
  clear hat h2 hb hf hz hmn hch hm
  have H0 : Hid (Fix w k #[.int .i64 (s : Int), .int .i64 (k : Int), .int .i64 (l : Int), .slice a m c] (((w.alloc (.cells #[.int .i64 (s : Int), .int .i64 (k : Int), .int .i64 (l : Int), .slice a m c] 26)).alloc (.map #[] 0)).alloc (.cells #[.int .i64 (k : Int), .map (some (w.heap.size + 1))] 117)) ∧ Tab (((w.alloc (.cells #[.int .i64 (s : Int), .int .i64 (k : Int), .int .i64 (l : Int), .slice a m c] 26)).alloc (.map #[] 0)).alloc (.cells #[.int .i64 (k : Int), .map (some (w.heap.size + 1))] 117)) (w.heap.size + 1) (w.heap.size + 3) [] (fun _ => [])) := by
    have ht := (Tab.made (w.alloc (.cells #[.int .i64 (s : Int), .int .i64 (k : Int), .int .i64 (l : Int), .slice a m c] 26))).below (below_new _ (.cells #[.int .i64 (k : Int), .map (some (w.heap.size + 1))] 117))
    simp only [World.size_alloc] at ht
    refine hide ⟨⟨(((Below.refl w.heap.size w).alloc (Nat.le_refl _) _).alloc (by simp) _).alloc (by simp; omega) _, heap_old (heap_2a w _ _) _, heap_3c w _ _ _, by simp⟩, ht.raise rfl (by omega)⟩
  unfold sigV at HC ⊢
  go_enter Tryd.func24, Tryd.ntmps24
  have hmm := @run_makeMap Tryd.prog
  go_wp2_with fail
  clear hmm
  generalize (((w.alloc (.cells #[.int .i64 (s : Int), .int .i64 (k : Int), .int .i64 (l : Int), .slice a m c] 26)).alloc (.map #[] 0)).alloc (.cells #[.int .i64 (k : Int), .map (some (w.heap.size + 1))] 117)) = w1 at *
  (with_reducible refine Calls.mono (HC.out w1 H0.out.1.below) ?_)
  rintro e w2 ⟨rfl, hb2⟩
  have H2 : Hid (Fix w k #[.int .i64 (s : Int), .int .i64 (k : Int), .int .i64 (l : Int), .slice a m c] w2 ∧ Tab w2 (w.heap.size + 1) (w.heap.size + 3) [] (fun _ => [])) := hide ⟨H0.out.1.up hb2, H0.out.2.below hb2⟩
  clear hb2 H0 HC
  obtain ⟨c0, c1, c2, c3⟩ := Sig4.cells (T := 26) H2.out.1.sig
  go_wp2_with fail
  clear c0 c1 c2 c3
  go_loopw [20] (fun j wr => ∃ i es, j = .int .i64 ((i : Nat) : Int) ∧ i ≤ m ∧ es.length ≤ i ∧ Fix w k #[.int .i64 (s : Int), .int .i64 (k : Int), .int .i64 (l : Int), .slice a m c] wr ∧ Tab wr (w.heap.size + 1) (w.heap.size + 3) es (grp s l bs i)) (fun j _ => m - (intOf j).toNat)
  case atStart => exact ⟨0, [], rfl, Nat.zero_le _, Nat.zero_le _, H2.out.1, by rw [grp_zero]; exact H2.out.2⟩
  case round =>
    clear H2
    obtain ⟨i, es, rfl, hi, hes, hx, ht⟩ := hrel
    have HX := hide hx
    have HT := hide ht
    clear hx ht
    by_cases hlt : i < m
    · obtain ⟨b, hb⟩ : ∃ b, bs[i]? = some b := ⟨bs[i]'(by rw [HM.out]; exact hlt), by rw [List.getElem?_eq_getElem]⟩
      obtain ⟨hbok, hr0⟩ := Hat.out i b hb
      have HR := hide (fun u (hu : Below w.heap.size w u) => range_below hr0 hu)
      have ha1 := ha (by omega)
      subst ha1
      have Hb := hide hb
      have Hst := hide (grp_step s l bs i b hb)
      clear hr0 hb ha
      have d1 : decide ((i : Int) < (m : Int)) = true := by simpa using hlt
      have i1 : (0 : Int) ≤ (i : Int) := by omega
      have i2 : (i : Int) < (m : Int) := by omega
      have hsz : (blkC .u32 b).length = 33 := blkC_length hbok
      go_wp2_with (first
        | (refine wpList_load_part rfl 63 (.tmp 23) rfl g (off + i * 33) (blkC .u32 b) rfl (HR.out _ HX.out.below) _ Tryd.underlying63 rfl (by rw [hsz]; kernel_rfl) ?_)
        | (refine wpList_store_all rfl 63 (.tmp 5) (.tmp 24) rfl wr.heap.size (blkC .u32 b).toArray _ 63 rfl rfl (heap_last _ _) (by rw [List.size_toArray, hsz]; rfl) (by rw [List.size_toArray, hsz]; kernel_rfl) (all_oneCell_toArray (blkC_one _ _)) ?_))
      intro w5 H5 HG5
      refine of_hid ?_
      have hX1 := HX.out.up (below_new wr (.cells (blkC .u32 ⟨0, zeros 32⟩).toArray 63))
      have hT1 := HT.out.below (below_new wr (.cells (blkC .u32 ⟨0, zeros 32⟩).toArray 63))
      have hws := HX.out.size
      have hX5 : Fix w k #[.int .i64 (s : Int), .int .i64 (k : Int), .int .i64 (l : Int), .slice (some ⟨g, off, none⟩) m c] w5 := hX1.grown HG5.out (fun q hq => .inr (by injection hq with hq; omega))
      have hT5 := hT1.kept (k := wr.heap.size) HG5.out (fun p hp => by
        cases hbo : p.2.ownBlock with
        | none => exact .inl rfl
        | some q =>
          obtain ⟨y, _, _, h3⟩ := HT.out.entry p hp
          have := (h3.own q hbo).2
          exact .inr (fun e => by injection e with e; omega)) (by omega)
      obtain ⟨v0, hlk, hv, hal⟩ := HT.out.at hbok.1
      have hvb : v0.ownBlock ≠ some wr.heap.size := fun e => by have := (hv.own _ e).2; omega
      have hv5 := (hv.below (below_new wr (.cells (blkC .u32 ⟨0, zeros 32⟩).toArray 63))).kept HG5.out (.inr hvb)
      have HX5 := hide hX5
      have HT5 := hide hT5
      have Hv5 := hide hv5
      have Hv0 := hide hvb
      have Hal := hide hal
      have Hlk : Hid (∀ u : World, MapL Tryd.prog 50 u (w.heap.size + 1) es → (Instr.lookup 115 (.map (some (w.heap.size + 1))) (.int .u32 (b.w : Int)) false).run Tryd.prog u = .ok v0 u) := hide (HT.out.look hbok.1 hlk)
      clear hX1 hT1 hX5 hT5 hlk hv hal hvb hv5 HX HT HG5 HR
      generalize wr.heap.size = B at *
      obtain ⟨n, hn⟩ : ∃ n, n = min s (l - i * s) := ⟨_, rfl⟩
      have him : (i : Int) * (s : Int) < (l : Int) := Kf.cnt_lt (by omega) (by omega) (by omega) (by rw [← Hmn.out]; omega)
      have e0 : (i : Int) * (s : Int) = ((i * s : Nat) : Int) := by simp
      have HSp := hide (span_c w5 s k l i (.slice (some ⟨g, off, none⟩) m c) (by omega) (by omega) (by omega) (by omega) (by omega) (by omega))
      have hni : min (s : Int) ((l : Int) - (i : Int) * (s : Int)) = (n : Int) := by rw [hn, e0]; omega
      rw [hni] at HSp
      rw [← hn] at Hst
      unfold sigV at HSp
      clear hni hn him e0
      obtain ⟨c0, c1, c2, c3⟩ := Sig4.cells (T := 26) HX5.out.sig
      go_wp2_with fail
      refine HSp.out.mono ?_
      rintro e w6 ⟨rfl, hb6⟩
      have H0 : Hid (IT w k #[.int .i64 (s : Int), .int .i64 (k : Int), .int .i64 (l : Int), .slice (some ⟨g, off, none⟩) m c] es (grp s l bs i) B b.w b v0 ⟨i, n, b⟩ [] w6) := hide ⟨HX5.out.up hb6, HT5.out.below hb6, below_blk hb6 (heap_lt H5.out) H5.out, Hv5.out.below hb6⟩
      clear hb6 HSp HX5 HT5 Hv5 H5 c0 c1 c2 c3
      go_wp2_with fail
      refine wp_region_h (IT w k #[.int .i64 (s : Int), .int .i64 (k : Int), .int .i64 (l : Int), .slice (some ⟨g, off, none⟩) m c] es (grp s l bs i) B b.w b v0 ⟨i, n, b⟩)
        [some (some (.pointer (some ⟨w.heap.size + 1 + 1, 0, none⟩))), some (some (.pointer (some ⟨w.heap.size + 1 + 1, 0, none⟩))), some (some (.pointer (some ⟨w.heap.size + 1 + 1, 1, none⟩))), some (some (.map (some (w.heap.size + 1)))), some (some (.pointer (some ⟨B, 0, none⟩))), some (some (.int .u32 (b.w : Int))), some (some (.pointer (some ⟨w.heap.size + 1 + 1, 0, none⟩))), some (some (.pointer (some ⟨w.heap.size + 1 + 1, 0, none⟩))), some (some (.pointer (some ⟨w.heap.size + 1 + 1, 1, none⟩))), some (some (.map (some (w.heap.size + 1)))), some (some (.pointer (some ⟨B, 0, none⟩))), some (some (.int .u32 (b.w : Int))), some (some v0), some (some (.int .i64 (i : Int))), some (some (.int .i64 (n : Int))), some (some (blkV .u32 b)), some (some (.agg (plcC ⟨i, n, b⟩).toArray)), none, none, none] [3, 3, 3, 3, 3, 2, 3, 3, 3, 3, 3, 2, 1, 3, 3, 2, 3, 0, 0, 0] (by kernel_rfl) (by kernel_rfl) [17, 18, 19] [17, 18, 19] rfl rfl (by kernel_rfl) (by kernel_rfl) (IT.drew H0.out) ?_
      refine gF_step (by rfl) (fun h u K hL hT hK => ?_) ?_
      · go_simp
        exact hK _ hT
      simp only [Act.put, List.setIfInBounds_toArray, List.set_cons_zero, List.set_cons_succ]
      refine gF_step (by rfl) (fun h u K hL hT hK => ?_) ?_
      · go_simp
        exact hK _ hT
      simp only [Act.put, List.setIfInBounds_toArray, List.set_cons_zero, List.set_cons_succ]
      refine gF_step (by rfl) (fun h u K hL hT hK => ?_) ?_
      · go_simp
        exact hK _ hT
      simp only [Act.put, List.setIfInBounds_toArray, List.set_cons_zero, List.set_cons_succ]
      refine gF_step (by rfl) (fun h u K hL hT hK => ?_) ?_
      · have c1 : u.cell? ⟨w.heap.size + 1 + 1, 1, none⟩ = some (.map (some (w.heap.size + 1))) := blk_cell hT.fix.tbl rfl
        go_simp
        exact hK _ hT
      simp only [Act.put, List.setIfInBounds_toArray, List.set_cons_zero, List.set_cons_succ]
      refine gF_step (by rfl) (fun h u K hL hT hK => ?_) ?_
      · go_simp
        exact hK _ hT
      simp only [Act.put, List.setIfInBounds_toArray, List.set_cons_zero, List.set_cons_succ]
      refine gF_step (by rfl) (fun h u K hL hT hK => ?_) ?_
      · have c0 : u.cell? ⟨B, 0, none⟩ = some (.int .u32 (b.w : Int)) := blk_cell (hT.blk hL) rfl
        go_simp
        exact hK _ hT
      simp only [Act.put, List.setIfInBounds_toArray, List.set_cons_zero, List.set_cons_succ]
      refine gF_step (by rfl) (fun h u K hL hT hK => ?_) ?_
      · go_simp
        exact hK _ hT
      simp only [Act.put, List.setIfInBounds_toArray, List.set_cons_zero, List.set_cons_succ]
      refine gF_step (by rfl) (fun h u K hL hT hK => ?_) ?_
      · go_simp
        exact hK _ hT
      simp only [Act.put, List.setIfInBounds_toArray, List.set_cons_zero, List.set_cons_succ]
      refine gF_step (by rfl) (fun h u K hL hT hK => ?_) ?_
      · go_simp
        exact hK _ hT
      simp only [Act.put, List.setIfInBounds_toArray, List.set_cons_zero, List.set_cons_succ]
      refine gF_step (by rfl) (fun h u K hL hT hK => ?_) ?_
      · have c1 : u.cell? ⟨w.heap.size + 1 + 1, 1, none⟩ = some (.map (some (w.heap.size + 1))) := blk_cell hT.fix.tbl rfl
        go_simp
        exact hK _ hT
      simp only [Act.put, List.setIfInBounds_toArray, List.set_cons_zero, List.set_cons_succ]
      refine gF_step (by rfl) (fun h u K hL hT hK => ?_) ?_
      · go_simp
        exact hK _ hT
      simp only [Act.put, List.setIfInBounds_toArray, List.set_cons_zero, List.set_cons_succ]
      refine gF_step (by rfl) (fun h u K hL hT hK => ?_) ?_
      · have c0 : u.cell? ⟨B, 0, none⟩ = some (.int .u32 (b.w : Int)) := blk_cell (hT.blk hL) rfl
        go_simp
        exact hK _ hT
      simp only [Act.put, List.setIfInBounds_toArray, List.set_cons_zero, List.set_cons_succ]
      refine gF_step (by rfl) (fun h u K hL hT hK => ?_) ?_
      · exact kUpon_look 115 (.tmp 40) (.tmp 42) false rfl v0 (.map (some (w.heap.size + 1))) (.int .u32 (b.w : Int)) rfl rfl (Hlk.out u (hT.tab hL).map) (hK _ hT)
      simp only [Act.put, List.setIfInBounds_toArray, List.set_cons_zero, List.set_cons_succ]
      refine gF_step (by rfl) (fun h u K hL hT hK => ?_) ?_
      · go_simp
        exact hK _ hT
      simp only [Act.put, List.setIfInBounds_toArray, List.set_cons_zero, List.set_cons_succ]
      refine gF_step (by rfl) (fun h u K hL hT hK => ?_) ?_
      · go_simp
        exact hK _ hT
      simp only [Act.put, List.setIfInBounds_toArray, List.set_cons_zero, List.set_cons_succ]
      refine gF_step (by rfl) (fun h u K hL hT hK => ?_) ?_
      · exact kUpon_load_all 63 (.tmp 5) rfl B (blkC .u32 b).toArray 63 (0, 0) rfl (hT.blk hL) _ Tryd.underlying63 rfl (by rw [List.size_toArray, hsz]; kernel_rfl) (hK _ hT)
      simp only [Act.put, List.setIfInBounds_toArray, List.set_cons_zero, List.set_cons_succ]
      refine gF_step (by rfl) (fun h u K hL hT hK => ?_) ?_
      · exact kUpon_build_to 120 _ rfl [(0, .int .i64 (i : Int)), (1, .int .i64 (n : Int)), (2, blkV .u32 b)] rfl _ (built_plc i n b hbok) (hK _ hT)
      simp only [Act.put, List.setIfInBounds_toArray, List.set_cons_zero, List.set_cons_succ]
      refine gD_step (fun y => ∃ C, y = .slice (some ⟨C, 0, none⟩) 1 1) ⟨_, 0, rfl⟩ (by rfl) (fun u K hT hK => ?_) (fun y hy => ?_)
      · refine kUpon_slice_to 118 1 _ rfl [(0, .agg (plcC ⟨i, n, b⟩).toArray)] rfl _ _ (one_plc u ⟨i, n, b⟩ hbok) (hK _ _ ⟨_, rfl⟩ ?_)
        exact ⟨IT.up (h := []) hT (below_new _ _), _, rfl, _, _, heap_last _ _⟩
      obtain ⟨C, rfl⟩ := hy
      simp only [Act.put, List.setIfInBounds_toArray, List.set_cons_zero, List.set_cons_succ]
      refine gD_step (fun y => ∃ g n cap, y = .slice (some ⟨g, 0, none⟩) n cap) ⟨_, 0, 0, 0, rfl⟩ (by rfl) (fun u K hT hK => ?_) (fun y hy => ?_)
      · obtain ⟨⟨hx, ht, hB5, hv⟩, C', e, T', f', hC⟩ := hT
        simp only [Value.slice.injEq, Option.some.injEq, Addr.mk.injEq, and_true] at e
        subst e
        obtain ⟨v', u', hrun, ho, hg, hown⟩ := append_plc u _ v0 _ (grp s l bs i b.w) C ⟨i, n, b⟩ T' f' 1 hv hx.size hbok hC (Nat.le_trans (grp_length _ _ _ _ _) (by omega))
        obtain ⟨g', n', cap', hv'⟩ := ownP_some ho (by simp)
        refine kUpon_append 118 (.tmp 43) (.tmp 48) rfl hrun (hK _ _ ⟨g', n', cap', hv'⟩ ?_)
        refine ⟨hx.grown hg (fun q hq => .inr (hv.own q hq).1), Kl.Tab.append ht hv Hal.out hg ho hown, ?_⟩
        exact (hg.block B (heap_lt hB5) (fun e => Hv0.out (by rw [← e]))).trans hB5
      obtain ⟨g', n', cap', rfl⟩ := hy
      simp only [Act.put, List.setIfInBounds_toArray, List.set_cons_zero, List.set_cons_succ]
      refine gE_step (v := undef) (by rfl) (fun u K hT hK => ?_) ?_
      · obtain ⟨hx, ht, hB5⟩ := hT
        obtain ⟨l', u', hr, ht', hg, hll⟩ := ht.store hbok.1 (by unfold maxLen; omega)
        refine kUpon_put 115 (.tmp 34) (.tmp 36) (.tmp 49) rfl (.map (some (w.heap.size + 1))) (.int .u32 (b.w : Int)) (.slice (some ⟨g', 0, none⟩) n' cap') rfl rfl rfl hr (hK _ ?_)
        exact ⟨hx.grown hg (fun q hq => by injection hq with hq; omega), l', hll, ht'⟩
      simp only [Act.put, List.setIfInBounds_toArray, List.set_cons_zero, List.set_cons_succ]
      refine g_nil (fun w7 hT7 => ?_)
      obtain ⟨hx7, l', hl', ht7⟩ := hT7
      rw [← Hst.out] at ht7
      have HX7 := hide hx7
      have HT7 := hide ht7
      clear hx7 ht7 H0
      go_wp2
      go_roundw
      case rel => exact ⟨i + 1, l', by go_num, by omega, by omega, HX7.out, HT7.out⟩
      case measure => simp [intOf]; omega
    · obtain rfl : i = m := by omega
      have d1 : decide ((i : Int) < (i : Int)) = false := by simp
      clear ha hi
      go_wp2
      go_ret
      exact ⟨rfl, HX.out.tbl, ⟨es, by rw [HM.out]; exact HT.out⟩, HX.out.below⟩
end Go.Proofs.YtheambpddpfcfaaDoor.Kn
