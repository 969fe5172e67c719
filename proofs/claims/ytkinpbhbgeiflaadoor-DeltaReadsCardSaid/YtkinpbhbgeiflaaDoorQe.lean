/- Several texts, one behind the other. -/
import Derived.Test.YtkinpbhbgeiflaaDoorQd
import Derived.Deep.RegionHeld3
import Derived.Test.YtkinpbhbgeiflaaDoorQa
import Derived.ChangeKeysEq
import Derived.Test.YtkinpbhbgeiflaaDoorQc
import Derived.BigQuiet
import Derived.Deep.QuietTactic
import Derived.Maps.AppendAt
import Derived.Test.YtkinpbhbgeiflaaDoorRows
import Derived.WalkKit
import Derived.ProofKit
import Derived.OpenShut
import Derived.Below
import Derived.Outline
import Derived.Lib.SlBytesConst
import Derived.Deep.RegionWith
import Derived.LoopN
import Derived.Deep.MidRow
import Derived.Test.YtkinpbhbgeiflaaDoorQb
import Derived.Great.BuildSlice
/- Blocks in plain numbers: how many there are, what is right of their sums; blocks as cells. -/
namespace Go.Proofs.YtkinpbhbgeiflaaDoor.Ka
set_option linter.unusedVariables false
set_option linter.unusedSimpArgs false
set_option maxRecDepth 100000
open Go.RowKit
open Go.Proofs.YtkinpbhbgeiflaaDoor.Wu Go.Proofs.YtkinpbhbgeiflaaDoor.Sm Go.Proofs.YtkinpbhbgeiflaaDoor.Sh Go.Proofs.YtkinpbhbgeiflaaDoor.Ba Go.Proofs.YtkinpbhbgeiflaaDoor.Bp
/-- How many blocks a file has. -/
def cntZ (l s : Int) : Int := if s < 1 ∨ l < 0 then 0 else if 0 < l % s then l / s + 1 else l / s
theorem cntZ_nonneg (l s : Int) : 0 ≤ cntZ l s := by
  unfold cntZ
  split
  · omega
  · rename_i h
    have : 0 ≤ l / s := Int.ediv_nonneg (by omega) (by omega)
    split <;> omega
/-- Why a file's blocks can't be such; 0: they can. -/
def fitsE (sz cut len : Int) : Int := if sz < 1 ∨ 4096 < sz ∨ cut < 0 ∨ 32 < cut ∨ len < 0 then 1 else if 4096 < cntZ len sz then 2 else 0
theorem fitsE_zero {sz cut len : Int} (h : fitsE sz cut len = 0) : 1 ≤ sz ∧ sz ≤ 4096 ∧ 0 ≤ cut ∧ cut ≤ 32 ∧ 0 ≤ len ∧ cntZ len sz ≤ 4096 ∧ len ≤ 16777216 := by
  unfold fitsE at h
  split at h
  · omega
  · split at h
    · omega
    · rename_i h1 h2
      refine ⟨by omega, by omega, by omega, by omega, by omega, by omega, ?_⟩
      have h3 : len < 16777217 ∨ 16777217 ≤ len := by omega
      rcases h3 with h3 | h3
      · omega
      · exfalso
        apply h2
        unfold cntZ
        rw [if_neg (by omega)]
        have e1 : 4096 * sz ≤ len := by omega
        have h4 : 4096 ≤ len / sz := by
          rw [Int.le_ediv_iff_mul_le (by omega)]
          omega
        have h5 : len = sz * (len / sz) + len % sz := (Int.mul_ediv_add_emod len sz).symm
        have h6 : 0 ≤ len % sz := Int.emod_nonneg _ (by omega)
        split
        · omega
        · have h7 : len % sz = 0 := by omega
          rcases Int.lt_or_le 4096 (len / sz) with h8 | h8
          · exact h8
          · have h9 : len / sz = 4096 := by omega
            rw [h9, h7] at h5
            omega
/-- A block's sums. -/
structure Blk where
  w : Nat
  s : List Nat
deriving DecidableEq
def Blk.ok (b : Blk) : Prop := b.w < 4294967296 ∧ b.s.length = 32 ∧ All8 b.s
/-- Its cells; the weak one's kind is q. -/
def blkC (q : IntKind) (b : Blk) : List Value := .int q (b.w : Int) :: b8 b.s
theorem blkC_length {q : IntKind} {b : Blk} (h : b.ok) : (blkC q b).length = 33 := by simp [blkC, b8_length, h.2.1]
theorem blkC_one (q : IntKind) (b : Blk) : ∀ v ∈ blkC q b, v.oneCell' = true := by
  intro v hv
  rcases List.mem_cons.1 hv with rfl | hv
  · rfl
  · exact b8_one _ v hv
def rowC (q : IntKind) (bs : List Blk) : List Value := bs.flatMap (blkC q)
def Oks (bs : List Blk) : Prop := ∀ b ∈ bs, b.ok
theorem rowC_length {q : IntKind} : ∀ {bs : List Blk}, Oks bs → (rowC q bs).length = bs.length * 33
  | [], _ => rfl
  | b :: bs, h => by
    have h1 := rowC_length (q := q) (bs := bs) (fun x hx => h x (List.mem_cons_of_mem _ hx))
    have h2 := blkC_length (q := q) (h b List.mem_cons_self)
    unfold rowC at h1 ⊢
    rw [List.flatMap_cons, List.length_append, h1, h2, List.length_cons]
    omega
theorem rowC_one (q : IntKind) (bs : List Blk) : ∀ v ∈ rowC q bs, v.oneCell' = true := by
  intro v hv
  obtain ⟨b, _, hb⟩ := List.mem_flatMap.1 hv
  exact blkC_one q b v hb
theorem rowC_append (q : IntKind) (bs cs : List Blk) : rowC q (bs ++ cs) = rowC q bs ++ rowC q cs := by simp [rowC]
theorem rowC_at {q : IntKind} : ∀ {bs : List Blk}, Oks bs → ∀ {i : Nat} {b : Blk}, bs[i]? = some b → ∀ j, j < 33 → (rowC q bs)[i * 33 + j]? = (blkC q b)[j]?
  | [], _, i, b, h, _, _ => by simp at h
  | c :: bs, hk, 0, b, h, j, hj => by
    simp at h
    subst h
    have := blkC_length (q := q) (hk c List.mem_cons_self)
    rw [rowC, List.flatMap_cons, Nat.zero_mul, Nat.zero_add, List.getElem?_append_left (by omega)]
  | c :: bs, hk, i + 1, b, h, j, hj => by
    have h1 := blkC_length (q := q) (hk c List.mem_cons_self)
    have ih := rowC_at (q := q) (bs := bs) (fun x hx => hk x (List.mem_cons_of_mem _ hx)) (i := i) (b := b) (by simpa using h) j hj
    rw [rowC, List.flatMap_cons, List.getElem?_append_right (by omega), h1, show (i + 1) * 33 + j - 33 = i * 33 + j by omega]
    exact ih
/-- A slice that reads as these blocks. -/
def IsBks (q : IntKind) (w : World) (v : Value) (bs : List Blk) : Prop :=
  Oks bs ∧ ∃ a cap, v = .slice a bs.length cap ∧ bs.length ≤ cap ∧ cap ≤ 9223372036854775807 ∧ ∃ g off, (0 < bs.length → a = some ⟨g, off, none⟩) ∧ w.rangeAt g off (rowC q bs)
theorem IsBks.nil (q : IntKind) (w : World) : IsBks q w (.slice none 0 0) [] := ⟨(by intro b hb; cases hb), none, 0, rfl, Nat.le_refl _, by omega, 0, 0, fun h => absurd h (by simp), fun j v hv => by simp [rowC] at hv⟩
theorem range_below {w w' : World} {g off : Nat} {cs : List Value} (h : w.rangeAt g off cs) (hb : Below w.heap.size w w') : w'.rangeAt g off cs := fun j v hv => keepC hb (Nat.le_refl _) (h j v hv)
theorem range_same {w w' : World} {g off : Nat} {cs : List Value} (h : w.rangeAt g off cs) (e : w'.heap[g]? = w.heap[g]?) : w'.rangeAt g off cs := fun j v hv => by
  rw [World.cell?_of_block (a := ⟨g, off + j, none⟩) e]; exact h j v hv
theorem IsBks.below {q : IntKind} {w w' : World} {v : Value} {bs : List Blk} (h : IsBks q w v bs) (hb : Below w.heap.size w w') : IsBks q w' v bs := by
  obtain ⟨h0, a, cap, h1, h2, h3, g, off, h4, h5⟩ := h
  exact ⟨h0, a, cap, h1, h2, h3, g, off, h4, range_below h5 hb⟩
/-- The block that stands at i. -/
theorem IsBks.at {q : IntKind} {w : World} {v : Value} {bs : List Blk} (h : IsBks q w v bs) : ∃ a cap g off, v = .slice a bs.length cap ∧ bs.length ≤ cap ∧ cap ≤ 9223372036854775807 ∧ (0 < bs.length → a = some ⟨g, off, none⟩) ∧
    ∀ i b, bs[i]? = some b → b.ok ∧ w.rangeAt g (off + i * 33) (blkC q b) := by
  obtain ⟨h0, a, cap, h1, h2, h3, g, off, h4, h5⟩ := h
  refine ⟨a, cap, g, off, h1, h2, h3, h4, fun i b hb => ⟨h0 b (List.mem_of_getElem? hb), fun j v hv => ?_⟩⟩
  have hok := h0 b (List.mem_of_getElem? hb)
  have hj : j < 33 := by rw [← blkC_length (q := q) hok]; exact (List.getElem?_eq_some_iff.1 hv).1
  have := h5 (i * 33 + j) v (by rw [rowC_at h0 hb j hj]; exact hv)
  rwa [Nat.add_assoc]
/-- A slice of blocks of the call's own. -/
def OwnBks (q : IntKind) (e : TypeId) (w : World) (N : Nat) (v : Value) (bs : List Blk) : Prop := Oks bs ∧ w.ownsRow N e 33 v bs.length (rowC q bs)
theorem OwnBks.nil (q : IntKind) (e : TypeId) (w : World) (N : Nat) : OwnBks q e w N (.slice none 0 0) [] := ⟨(by intro b hb; cases hb), World.ownsRow_nil _ _ _ _⟩
theorem OwnBks.is {q : IntKind} {e : TypeId} {w : World} {N : Nat} {v : Value} {bs : List Blk} (h : OwnBks q e w N v bs) : IsBks q w v bs := by
  obtain ⟨h0, h1, h2⟩ := h
  refine ⟨h0, ?_⟩
  rcases h2 with ⟨rfl, hn⟩ | ⟨g, cap, cur, rfl, hb, hg, hl, hm, hs, ht⟩
  · obtain rfl : bs = [] := List.length_eq_zero_iff.1 hn
    exact ⟨none, 0, rfl, Nat.le_refl _, by omega, 0, 0, fun h => absurd h (by simp), fun j v hv => by simp [rowC] at hv⟩
  · unfold maxLen at hm
    refine ⟨some ⟨g, 0, none⟩, cap, rfl, hl, by omega, g, 0, fun _ => rfl, fun j v hv => ?_⟩
    rw [Nat.zero_add]
    refine blk_cell hg ?_
    rw [← ht] at hv
    rw [List.getElem?_take] at hv
    split at hv
    · simpa using hv
    · cases hv
theorem OwnBks.own {q : IntKind} {e : TypeId} {w : World} {N : Nat} {v : Value} {bs : List Blk} (h : OwnBks q e w N v bs) : ∀ g, v.ownBlock = some g → N ≤ g ∧ g < w.heap.size := fun g hg => h.2.lt g hg
theorem OwnBks.same {q : IntKind} {e : TypeId} {w w' : World} {N : Nat} {v : Value} {bs : List Blk} (h : OwnBks q e w N v bs) (hk : ∀ g, v.ownBlock = some g → w'.heap[g]? = w.heap[g]?) : OwnBks q e w' N v bs := by
  obtain ⟨h0, h1, h2⟩ := h
  refine ⟨h0, h1, ?_⟩
  rcases h2 with h | ⟨g, cap, cur, rfl, hb, hg, r⟩
  · exact .inl h
  · exact .inr ⟨g, cap, cur, rfl, hb, (hk g rfl).trans hg, r⟩
theorem OwnBks.below {q : IntKind} {e : TypeId} {w w' : World} {N : Nat} {v : Value} {bs : List Blk} (h : OwnBks q e w N v bs) (hb : Below w.heap.size w w') : OwnBks q e w' N v bs :=
  h.same fun g hg => hb.block g (h.own g hg).2
theorem OwnBks.kept {q : IntKind} {e : TypeId} {w w' : World} {N k : Nat} {v : Value} {bs : List Blk} (h : OwnBks q e w N v bs) (hg : w.grownBy w' (some k)) (hk : v.ownBlock ≠ some k) : OwnBks q e w' N v bs :=
  h.same fun g hv => hg.block g (h.own g hv).2 (fun e => hk (by rw [hv, e]))
/-- A file's i-th block. -/
def piece (D : List Nat) (size i : Nat) : List Nat := (D.drop (i * size)).take size
def ints (L : List Nat) : List Int := L.map fun x : Nat => (x : Int)
open Go.Proofs.YtkinpbhbgeiflaaDoor.Wm in
/-- The weak sum as a number. -/
def wkN (L : List Nat) : Nat := (hi (ints L) * 65536 + lo (ints L)).toNat
open Go.Proofs.YtkinpbhbgeiflaaDoor.Wm in
theorem wkN_is (L : List Nat) : ((wkN L : Nat) : Int) = hi (ints L) * 65536 + lo (ints L) := by
  have := lo_nonneg (ints L)
  have := hi_nonneg (ints L)
  unfold wkN
  omega
open Go.Proofs.YtkinpbhbgeiflaaDoor.Wm in
theorem wkN_lt (L : List Nat) : wkN L < 4294967296 := by
  have := lo_lt (ints L)
  have := hi_lt (ints L)
  have := lo_nonneg (ints L)
  have := hi_nonneg (ints L)
  have := wkN_is L
  omega
theorem ints_length (L : List Nat) : (ints L).length = L.length := by simp [ints]
theorem ints_getD (L : List Nat) (i : Nat) : (ints L).getD i 0 = ((L.getD i 0 : Nat) : Int) := by
  unfold ints
  simp only [List.getD, List.getElem?_map]
  cases L[i]? <;> simp
open Go.Proofs.YtkinpbhbgeiflaaDoor.Wm in
theorem ints_byt {L : List Nat} (h : All8 L) : Byt (ints L) := by
  intro z hz
  obtain ⟨x, hx, rfl⟩ := List.mem_map.1 hz
  have := h x hx
  omega
end Go.Proofs.YtkinpbhbgeiflaaDoor.Ka
/- Block's small functions: Count, fits, span. -/
namespace Go.Proofs.YtkinpbhbgeiflaaDoor.Kb
set_option linter.unusedVariables false
set_option linter.unusedSimpArgs false
set_option maxRecDepth 100000
open Go.ChangeShapes Go.WideShapes Go.ChangeAt Go.RowKit
open Go.Proofs.YtkinpbhbgeiflaaDoor.Wu Go.Proofs.YtkinpbhbgeiflaaDoor.Sm Go.Proofs.YtkinpbhbgeiflaaDoor.Sh Go.Proofs.YtkinpbhbgeiflaaDoor.Ba Go.Proofs.YtkinpbhbgeiflaaDoor.Bp Go.Proofs.YtkinpbhbgeiflaaDoor.Ka
theorem div_bd {l s : Int} (hl : 0 ≤ l) (hs : 1 ≤ s) : 0 ≤ l / s ∧ l / s ≤ l ∧ 0 ≤ l % s ∧ l % s < s ∧ (0 < l % s → l / s < l) := by
  have h1 := Int.ediv_nonneg hl (show 0 ≤ s by omega)
  have h2 : l / s ≤ l := Int.ediv_le_self _ hl
  have h3 := Int.emod_nonneg l (show s ≠ 0 by omega)
  have h4 := Int.emod_lt_of_pos l (show 0 < s by omega)
  refine ⟨h1, h2, h3, h4, fun h => ?_⟩
  rcases Int.lt_or_eq_of_le h2 with h5 | h5
  · exact h5
  · exfalso
    have h6 := Int.mul_ediv_add_emod l s
    rw [h5] at h6
    have h7 : l * 1 ≤ l * s := Int.mul_le_mul_of_nonneg_left hs hl
    rw [Int.mul_comm s l] at h6
    omega
theorem count_c (w : World) (l s : Int) (hl : l ≤ 9223372036854775807) :
    Calls Tryd.prog 43 #[.int .i64 l, .int .i64 s] w fun e w' => e = .returned (.int .i64 (cntZ l s)) ∧ w = w' := by
  unfold cntZ
  by_cases h1 : s < 1
  · rw [if_pos (.inl h1)]
    have d1 : decide (s < 1) = true := by simpa using h1
    clear h1 hl
    go_enter Tryd.func43, Tryd.ntmps43
    go_wp2
    go_ret
    exact ⟨rfl, rfl⟩
  · have d1 : decide (s < 1) = false := by simpa using h1
    by_cases h2 : l < 0
    · rw [if_pos (.inr h2)]
      have d2 : decide (l < 0) = true := by simpa using h2
      clear h1 h2 hl
      go_enter Tryd.func43, Tryd.ntmps43
      go_wp2
      go_ret
      exact ⟨rfl, rfl⟩
    · have d2 : decide (l < 0) = false := by simpa using h2
      rw [if_neg (by omega)]
      obtain ⟨b1, b2, b3, b4, b5⟩ := div_bd (show 0 ≤ l by omega) (show 1 ≤ s by omega)
      have e1 : l.tdiv s = l / s := Int.tdiv_eq_ediv_of_nonneg (by omega)
      have e2 : l.tmod s = l % s := Int.tmod_eq_emod_of_nonneg (by omega)
      have hs0 : s ≠ 0 := by omega
      have hs1 : s ≠ -1 := by omega
      generalize l / s = q at *
      generalize l % s = r at *
      by_cases h3 : 0 < r
      · rw [if_pos h3]
        have d3 : decide (0 < r) = true := by simpa using h3
        have b6 := b5 h3
        clear h1 h2 h3 b5
        go_enter Tryd.func43, Tryd.ntmps43
        go_wp2
        go_ret
        exact ⟨rfl, rfl⟩
      · rw [if_neg h3]
        have d3 : decide (0 < r) = false := by simpa using h3
        clear h1 h2 h3 b5
        go_enter Tryd.func43, Tryd.ntmps43
        go_wp2
        go_ret
        exact ⟨rfl, rfl⟩
theorem refcount_c (w : World) (l s : Int) (hl : l ≤ 9223372036854775807) :
    Calls Tryd.prog 92 #[.int .i64 l, .int .i64 s] w fun e w' => e = .returned (.int .i64 (cntZ l s)) ∧ w = w' := by
  unfold cntZ
  by_cases h1 : s < 1
  · rw [if_pos (.inl h1)]
    have d1 : decide (s < 1) = true := by simpa using h1
    clear h1 hl
    go_enter Tryd.func92, Tryd.ntmps92
    go_wp2
    go_ret
    exact ⟨rfl, rfl⟩
  · have d1 : decide (s < 1) = false := by simpa using h1
    by_cases h2 : l < 0
    · rw [if_pos (.inr h2)]
      have d2 : decide (l < 0) = true := by simpa using h2
      clear h1 h2 hl
      go_enter Tryd.func92, Tryd.ntmps92
      go_wp2
      go_ret
      exact ⟨rfl, rfl⟩
    · have d2 : decide (l < 0) = false := by simpa using h2
      rw [if_neg (by omega)]
      obtain ⟨b1, b2, b3, b4, b5⟩ := div_bd (show 0 ≤ l by omega) (show 1 ≤ s by omega)
      have e1 : l.tdiv s = l / s := Int.tdiv_eq_ediv_of_nonneg (by omega)
      have e2 : l.tmod s = l % s := Int.tmod_eq_emod_of_nonneg (by omega)
      have hs0 : s ≠ 0 := by omega
      have hs1 : s ≠ -1 := by omega
      generalize l / s = q at *
      generalize l % s = r at *
      by_cases h3 : 0 < r
      · rw [if_pos h3]
        have d3 : (r == 0) = false := by simp; omega
        have b6 := b5 h3
        clear h1 h2 h3 b5
        go_enter Tryd.func92, Tryd.ntmps92
        go_wp2
        go_ret
        exact ⟨rfl, rfl⟩
      · rw [if_neg h3]
        obtain rfl : r = 0 := by omega
        clear h1 h2 h3 b5
        go_enter Tryd.func92, Tryd.ntmps92
        go_wp2
        go_ret
        exact ⟨rfl, rfl⟩
/-- A signature's value. -/
def sigV (sz cut len : Int) (v : Value) : Value := .agg #[.int .i64 sz, .int .i64 cut, .int .i64 len, v]
set_option maxHeartbeats 1600000 in
theorem fits_c (w : World) (sz cut len : Int) (v : Value) (hv : v.oneCell' = true) (hl : len ≤ 9223372036854775807) :
    Calls Tryd.prog 42 #[sigV sz cut len v] w fun e w' => e = .returned (.int .i64 (fitsE sz cut len)) ∧ Below w.heap.size w w' := by
  have HC := hide (fun u : World => count_c u len sz hl)
  clear hl
  unfold fitsE sigV
  by_cases h1 : sz < 1
  · rw [if_pos (.inl h1)]
    have d1 : decide (sz < 1) = true := by simpa using h1
    clear h1
    go_enter Tryd.func42, Tryd.ntmps42
    go_wp2
    go_ret
    exact ⟨rfl, below_new _ _⟩
  have d1 : decide (sz < 1) = false := by simpa using h1
  by_cases h2 : 4096 < sz
  · rw [if_pos (.inr (.inl h2))]
    have d2 : decide (4096 < sz) = true := by simpa using h2
    clear h1 h2
    go_enter Tryd.func42, Tryd.ntmps42
    go_wp2
    go_ret
    exact ⟨rfl, below_new _ _⟩
  have d2 : decide (4096 < sz) = false := by simpa using h2
  by_cases h3 : cut < 0
  · rw [if_pos (.inr (.inr (.inl h3)))]
    have d3 : decide (cut < 0) = true := by simpa using h3
    clear h1 h2 h3
    go_enter Tryd.func42, Tryd.ntmps42
    go_wp2
    go_ret
    exact ⟨rfl, below_new _ _⟩
  have d3 : decide (cut < 0) = false := by simpa using h3
  by_cases h4 : 32 < cut
  · rw [if_pos (.inr (.inr (.inr (.inl h4))))]
    have d4 : decide (32 < cut) = true := by simpa using h4
    clear h1 h2 h3 h4
    go_enter Tryd.func42, Tryd.ntmps42
    go_wp2
    go_ret
    exact ⟨rfl, below_new _ _⟩
  have d4 : decide (32 < cut) = false := by simpa using h4
  by_cases h5 : len < 0
  · rw [if_pos (.inr (.inr (.inr (.inr h5))))]
    have d5 : decide (len < 0) = true := by simpa using h5
    clear h1 h2 h3 h4 h5
    go_enter Tryd.func42, Tryd.ntmps42
    go_wp2
    go_ret
    exact ⟨rfl, below_new _ _⟩
  have d5 : decide (len < 0) = false := by simpa using h5
  rw [if_neg (by omega)]
  clear h1 h2 h3 h4 h5
  generalize cntZ len sz = n at *
  by_cases h6 : 4096 < n
  · rw [if_pos h6]
    have d6 : decide (4096 < n) = true := by simpa using h6
    clear h6
    go_enter Tryd.func42, Tryd.ntmps42
    go_wp2_with fail
    refine (HC.out _).mono ?_
    rintro e w1 ⟨rfl, rfl⟩
    go_wp2
    go_ret
    exact ⟨rfl, below_new _ _⟩
  · rw [if_neg h6]
    have d6 : decide (4096 < n) = false := by simpa using h6
    clear h6
    go_enter Tryd.func42, Tryd.ntmps42
    go_wp2_with fail
    refine (HC.out _).mono ?_
    rintro e w1 ⟨rfl, rfl⟩
    go_wp2
    go_ret
    exact ⟨rfl, below_new _ _⟩
end Go.Proofs.YtkinpbhbgeiflaaDoor.Kb
/- Two sums compared, for any program that has them. -/
namespace Go.Proofs.YtkinpbhbgeiflaaDoor.Se
set_option linter.unusedVariables false
set_option linter.unusedSimpArgs false
set_option maxRecDepth 100000
open Go.ChangeShapes Go.WideShapes Go.ChangeAt Go.RowKit
open Go.Proofs.YtkinpbhbgeiflaaDoor.Wu Go.Proofs.YtkinpbhbgeiflaaDoor.Sm Go.Proofs.YtkinpbhbgeiflaaDoor.Sh Go.Proofs.YtkinpbhbgeiflaaDoor.Ba
theorem und_u8 : Tryd.prog.underlying 5 = some (.int .u8) := Tryd.underlying5
theorem cells_u8 : Tryd.prog.cellsOf 5 = 1 := by kernel_rfl
theorem part_u8 (X : List Nat) (i : Nat) (h : i < X.length) (u : World) : Sem.run Tryd.prog (part 5 (u8s X) i) u = .ok (.int .u8 ((X.getD i 0 : Nat) : Int)) u := by
  have e : (u8s X)[i]? = some (.int .u8 ((X.getD i 0 : Nat) : Int)) := u8s_at X i h
  simp [part, e, size_u8, go_sem]
theorem items_u8 (d : Nat) (X Y : List Nat) (u : World) : ∀ is : List Nat, (∀ i ∈ is, i < X.length ∧ i < Y.length) →
    Sem.run Tryd.prog (Op.eqItems (d + 1) 5 1 (u8s X) (u8s Y) is) u = .ok (is.all fun i => X.getD i 0 == Y.getD i 0) u
  | [], _ => by simp [Op.eqItems]
  | i :: is, h => by
    have hi := h i (List.mem_cons_self ..)
    simp only [Op.eqItems, Sem.run_bind, Nat.mul_one, part_u8 X i hi.1, part_u8 Y i hi.2, Result.andThen_ok, run_equalIn_int u d 5 .u8 .u8 _ _ und_u8]
    rw [List.all_cons]
    by_cases he : X.getD i 0 = Y.getD i 0
    · rw [he]
      simp only [BEq.rfl, Bool.not_true, Bool.false_eq_true, if_false, Bool.true_and]
      exact items_u8 d X Y u is fun j hj => h j (List.mem_cons_of_mem _ hj)
    · have e1 : (((X.getD i 0 : Nat) : Int) == ((Y.getD i 0 : Nat) : Int)) = false := by simp only [beq_eq_false_iff_ne]; omega
      have e2 : (X.getD i 0 == Y.getD i 0) = false := by simpa using he
      rw [e1, e2]
      simp
theorem all_range (X Y : List Nat) (h : X.length = 32) (h' : Y.length = 32) : ((List.range 32).all fun i => X.getD i 0 == Y.getD i 0) = decide (X = Y) := by
  rw [Bool.eq_iff_iff]
  simp only [List.all_eq_true, List.mem_range, beq_iff_eq, decide_eq_true_eq]
  constructor
  · intro hh
    apply List.ext_getElem (by omega)
    intro i h1 h2
    have := hh i (by omega)
    simpa [List.getD, h1, h2] using this
  · rintro rfl i _; rfl
/-- Two sums, compared. -/
theorem sum_eq (X Y : List Nat) (hX : X.length = 32) (hY : Y.length = 32) (u : World) :
    Sem.run Tryd.prog (Op.equalIn 10000 84 (.agg (u8s X)) (.agg (u8s Y))) u = .ok (decide (X = Y)) u := by
  obtain ⟨i, hi, _⟩ := Option.map_eq_some_iff.1 info_u8s
  rw [run_equalIn_array (P := Tryd.prog) u 9999 (t := 84) (e := 5) (n := 32) (i := i) (u8s X) (u8s Y) Tryd.underlying84 hi, cells_u8, items_u8 9998 X Y u (List.range 32) (fun i hi => by rw [List.mem_range] at hi; omega), all_range X Y hX hY]
theorem sum_same (X : List Nat) (hX : X.length = 32) (u : World) : Sem.run Tryd.prog (Op.equalIn 10000 84 (.agg (u8s X)) (.agg (u8s X))) u = .ok true u := by
  rw [sum_eq X X hX hX]; simp
end Go.Proofs.YtkinpbhbgeiflaaDoor.Se
/- Block's span; blocks loaded and compared. -/
namespace Go.Proofs.YtkinpbhbgeiflaaDoor.Kc
set_option linter.unusedVariables false
set_option linter.unusedSimpArgs false
set_option maxRecDepth 100000
open Go.ChangeShapes Go.WideShapes Go.ChangeAt Go.RowKit
open Go.Proofs.YtkinpbhbgeiflaaDoor.Wu Go.Proofs.YtkinpbhbgeiflaaDoor.Sm Go.Proofs.YtkinpbhbgeiflaaDoor.Sh Go.Proofs.YtkinpbhbgeiflaaDoor.Ba Go.Proofs.YtkinpbhbgeiflaaDoor.Bp Go.Proofs.YtkinpbhbgeiflaaDoor.Ka Go.Proofs.YtkinpbhbgeiflaaDoor.Kb Go.Proofs.YtkinpbhbgeiflaaDoor.Se Go.Proofs.YtkinpbhbgeiflaaDoor.Rk
attribute [local go_sem] kUpon_value kUpon_skip kUpon_enter
theorem span_c (w : World) (sz cut len i : Int) (v : Value) (h1 : 0 ≤ i) (h2 : i ≤ 16777216) (h3 : 1 ≤ sz) (h4 : sz ≤ 4096) (h5 : 0 ≤ len) (h6 : len ≤ 9223372036854775807) :
    Calls Tryd.prog 44 #[sigV sz cut len v, .int .i64 i] w fun e w' => e = .returned (.tuple #[.int .i64 (i * sz), .int .i64 (min sz (len - i * sz))]) ∧ Below w.heap.size w w' := by
  unfold sigV
  have hm : 0 ≤ i * sz := Int.mul_nonneg h1 (by omega)
  have hm2 : i * sz ≤ 16777216 * 4096 := Int.mul_le_mul h2 h4 (by omega) (by omega)
  obtain ⟨at_, hat⟩ : ∃ at_, at_ = i * sz := ⟨_, rfl⟩
  obtain ⟨n, hn⟩ : ∃ n, n = min sz (len - at_) := ⟨_, rfl⟩
  rw [← hat] at hm hm2 ⊢
  rw [← hn]
  have e1 : wrap64 (i * sz) = at_ := by rw [← hat]; exact IntWalk.wrap64_in _ (by omega)
  have e3 : wrap64 (len - at_) = len - at_ := IntWalk.wrap64_in _ (by omega)
  have e4 : (if len - at_ < sz then len - at_ else sz) = n := by rw [hn]; split <;> omega
  clear hat hn
  have Hb := hide (below_new w (.cells #[.int .i64 sz, .int .i64 cut, .int .i64 len, v] 50))
  have c0 : (w.alloc (.cells #[.int .i64 sz, .int .i64 cut, .int .i64 len, v] 50)).cell? ⟨w.heap.size, 0, none⟩ = some (.int .i64 sz) := blk_cell (heap_last _ _) rfl
  have c2 : (w.alloc (.cells #[.int .i64 sz, .int .i64 cut, .int .i64 len, v] 50)).cell? ⟨w.heap.size, 2, none⟩ = some (.int .i64 len) := blk_cell (heap_last _ _) rfl
  go_enter Tryd.func44, Tryd.ntmps44
  go_wp2_with fail
  generalize (w.alloc (.cells #[.int .i64 sz, .int .i64 cut, .int .i64 len, v] 50)) = w1 at *
  go_quiet (fail)
  have HB2 := hide (below_drewN Hb.out nq)
  go_wp2
  go_ret2
  refine ⟨?_, HB2.out⟩
  show Ending.returned (.tuple #[.int .i64 (wrap64 (i * sz)), .int .i64 n]) = _
  rw [e1]
theorem und_int : Tryd.prog.underlying 3 = some (.int .i64) := Tryd.underlying3
/-- Blocks' values. -/
def blkV (q : IntKind) (b : Blk) : Value := .agg (blkC q b).toArray
theorem agg_sum (u : World) : Sem.run Tryd.prog (isAgg 84) u = .ok true u := by kernel_rfl
theorem agg_int (u : World) : Sem.run Tryd.prog (isAgg 3) u = .ok false u := by kernel_rfl
theorem agg_u32 (u : World) : Sem.run Tryd.prog (isAgg 108) u = .ok false u := by kernel_rfl
theorem size_sum (u : World) : Sem.run Tryd.prog (sizeOf 84) u = .ok 32 u := by kernel_rfl
theorem blk_tail (q : IntKind) (b : Blk) (h : b.ok) : (blkC q b).toArray.extract 1 33 = u8s b.s := by
  apply Array.toList_inj.1
  have := blkC_length (q := q) h
  simp [blkC, u8s_list, List.take_of_length_le, b8_length, h.2.1]
theorem part_sum (q : IntKind) (b : Blk) (h : b.ok) (u : World) : Sem.run Tryd.prog (part 84 (blkC q b).toArray 1) u = .ok (.agg (u8s b.s)) u := by
  simp only [part, Sem.run_bind, agg_sum, size_sum, Result.andThen_ok, if_true]
  rw [blk_tail q b h]
  rfl
theorem part_weak (q : IntKind) (T : TypeId) (hT : ∀ u, Sem.run Tryd.prog (isAgg T) u = .ok false u) (b : Blk) (u : World) : Sem.run Tryd.prog (part T (blkC q b).toArray 0) u = .ok (.int q (b.w : Int)) u := by
  simp only [part, Sem.run_bind, hT, Result.andThen_ok]
  simp [blkC, go_sem]
theorem sum_eq_at (d : Nat) (X Y : List Nat) (hX : X.length = 32) (hY : Y.length = 32) (u : World) :
    Sem.run Tryd.prog (Op.equalIn (d + 2) 84 (.agg (u8s X)) (.agg (u8s Y))) u = .ok (decide (X = Y)) u := by
  obtain ⟨i, hi, _⟩ := Option.map_eq_some_iff.1 info_u8s
  rw [run_equalIn_array (P := Tryd.prog) u (d + 1) (t := 84) (e := 5) (n := 32) (i := i) (u8s X) (u8s Y) Tryd.underlying84 hi, cells_u8, items_u8 d X Y u (List.range 32) (fun i hi => by rw [List.mem_range] at hi; omega), all_range X Y hX hY]
theorem fields_blk : (Tryd.prog.fieldsOf 116).toList.map (fun f => (f.name, f.type, f.offset)) = [("Weak", 108, 0), ("Strong", 84, 1)] := by kernel_rfl
theorem fields_ref : (Tryd.prog.fieldsOf 133).toList.map (fun f => (f.name, f.type, f.offset)) = [("Weak", 3, 0), ("Strong", 84, 1)] := by kernel_rfl
theorem blk_eq_any (q q' : IntKind) (T W : TypeId) (hT : Tryd.prog.underlying T = some (.struct (Tryd.prog.fieldsOf T))) (hF : (Tryd.prog.fieldsOf T).toList.map (fun f => (f.name, f.type, f.offset)) = [("Weak", W, 0), ("Strong", 84, 1)]) (hs : Tryd.prog.stoodInHeld T = false) (hW : Tryd.prog.underlying W = some (.int q')) (hA : ∀ u, Sem.run Tryd.prog (isAgg W) u = .ok false u) (b c : Blk) (hb : b.ok) (hc : c.ok) (u : World) :
    Sem.run Tryd.prog (Op.equalIn 10000 T (.agg (blkC q b).toArray) (.agg (blkC q c).toArray)) u = .ok (decide (b = c)) u := by
  rw [run_equalIn_struct u 9999 T _ _ hT hs]
  have hsum := sum_eq_at 9997 b.s c.s hb.2.1 hc.2.1
  revert hF
  generalize (Tryd.prog.fieldsOf T).toList = fs
  intro hF
  have hl : fs.length = 2 := by have := congrArg List.length hF; simpa using this
  obtain ⟨f, g, rfl⟩ : ∃ f g, fs = [f, g] := by
    rcases fs with _ | ⟨f, _ | ⟨g, _ | ⟨k, l⟩⟩⟩
    · simp at hl
    · simp at hl
    · exact ⟨f, g, rfl⟩
    · simp at hl
  simp only [List.map_cons, List.map_nil, List.cons.injEq, Prod.mk.injEq, and_true] at hF
  obtain ⟨⟨f1, f2, f3⟩, g1, g2, g3⟩ := hF
  simp only [Op.eqFields, f1, f2, f3, g1, g2, g3, Sem.run_bind, part_weak q W hA, part_sum q _ hb, part_sum q _ hc, Result.andThen_ok, run_equalIn_int u 9998 W q q' _ _ hW, hsum, Sem.run_ite, Sem.run_pure, ne_eq, String.reduceEq, not_false_eq_true, if_true]
  by_cases hw : b.w = c.w
  · have e1 : ((b.w : Int) == (c.w : Int)) = true := by simp [hw]
    by_cases hs : b.s = c.s
    · have : b = c := by cases b; cases c; simp_all
      simp [e1, hs, this]
    · have : b ≠ c := fun e => hs (by rw [e])
      simp [e1, hs, this]
  · have e1 : ((b.w : Int) == (c.w : Int)) = false := by simp only [beq_eq_false_iff_ne]; omega
    have : b ≠ c := fun e => hw (by rw [e])
    simp [e1, this]
theorem blk_eq (b c : Blk) (hb : b.ok) (hc : c.ok) (u : World) : Sem.run Tryd.prog (Op.equalIn 10000 116 (.agg (blkC .u32 b).toArray) (.agg (blkC .u32 c).toArray)) u = .ok (decide (b = c)) u :=
  blk_eq_any .u32 .u32 116 108 (by kernel_rfl) fields_blk (by kernel_rfl) Tryd.underlying108 agg_u32 b c hb hc u
theorem ref_eq (b c : Blk) (hb : b.ok) (hc : c.ok) (u : World) : Sem.run Tryd.prog (Op.equalIn 10000 133 (.agg (blkC .i64 b).toArray) (.agg (blkC .i64 c).toArray)) u = .ok (decide (b = c)) u :=
  blk_eq_any .i64 .i64 133 3 (by kernel_rfl) fields_ref (by kernel_rfl) Tryd.underlying3 agg_int b c hb hc u
end Go.Proofs.YtkinpbhbgeiflaaDoor.Kc
/- append of a block to a slice of the call's own; a signature in memory. -/
namespace Go.Proofs.YtkinpbhbgeiflaaDoor.Kd
set_option linter.unusedVariables false
set_option linter.unusedSimpArgs false
set_option maxRecDepth 100000
open Go.ChangeShapes Go.WideShapes Go.ChangeAt Go.RowKit
open Go.Proofs.YtkinpbhbgeiflaaDoor.Wu Go.Proofs.YtkinpbhbgeiflaaDoor.Sm Go.Proofs.YtkinpbhbgeiflaaDoor.Sh Go.Proofs.YtkinpbhbgeiflaaDoor.Ba Go.Proofs.YtkinpbhbgeiflaaDoor.Bp Go.Proofs.YtkinpbhbgeiflaaDoor.Ka Go.Proofs.YtkinpbhbgeiflaaDoor.Kb Go.Proofs.YtkinpbhbgeiflaaDoor.Kc
theorem info_blk : (Tryd.prog.info? 116).map (fun i => (i.zero, i.size, i.bytes)) = some (some (blkV .u32 ⟨0, zeros 32⟩), 33, 36) := by kernel_rfl
theorem info_ref : (Tryd.prog.info? 133).map (fun i => (i.zero, i.size, i.bytes)) = some (some (blkV .i64 ⟨0, zeros 32⟩), 33, 40) := by kernel_rfl
theorem blk_cells {q : IntKind} {w : World} {b : Nat} {x : Blk} {T : TypeId} {f : Nat × Nat} (h : w.heap[b]? = some (.cells (blkC q x).toArray T f)) : ∀ j u, (blkC q x)[j]? = some u → w.cell? ((⟨b, 0, none⟩ : Addr).add j) = some u := by
  intro j u hu
  rw [Addr.add_mid, Nat.zero_add]
  exact blk_cell h (by simpa using hu)
/-- append(list, x) -/
theorem append_bk (q : IntKind) (sT e : TypeId) (z : Value) (by_ : Nat) (hu : Tryd.prog.underlying sT = some (.slice e)) (hi : (Tryd.prog.info? e).map (fun i => (i.zero, i.size, i.bytes)) = some (some z, 33, by_)) (hby : by_ ≤ 40) (hz33 : z.cells.size = 33)
    (w : World) (ty : TypeId) (v : Value) (N : Nat) (bs : List Blk) (b : Nat) (x : Blk) (T : TypeId) (f : Nat × Nat) (c : Nat) (h : OwnBks q e w N v bs) (hN : N ≤ w.heap.size) (hx : x.ok) (hb : w.heap[b]? = some (.cells (blkC q x).toArray T f)) (hbig : bs.length ≤ 1000000000) :
    ∃ v' w', (Builtin.append_ #[sT, sT] ty #[v, .slice (some ⟨b, 0, none⟩) 1 c]).run Tryd.prog w = .ok v' w' ∧ OwnBks q e w' N v' (bs ++ [x]) ∧ w.grownBy w' v.ownBlock ∧ (v'.ownBlock = v.ownBlock ∨ v'.ownBlock = some w.heap.size) := by
  obtain ⟨i0, hi0, hz0, hz1, hz2⟩ := info_parts hi
  obtain ⟨h0, ho⟩ := h
  have h33 := blkC_length (q := q) hx
  obtain ⟨v', w', hr, h1, h2, h3, h4⟩ := run_append_own_at (P := Tryd.prog) w N sT ty e i0 _ 33 by_ hu hi0 hz0 hz1 hz2 hz33 (by omega) v bs.length (rowC q bs) ho ⟨b, 0, none⟩ 1 c (blkC q x) (by rw [h33]) (blk_cells hb) (blkC_one q x) (by unfold maxLen; omega) (Nat.le_trans (Nat.mul_le_mul (show bs.length + 1 ≤ 1000000001 by omega) hby) (by omega)) hN
  refine ⟨v', w', hr, ⟨?_, ?_⟩, h2, h4⟩
  · intro y hy
    rcases List.mem_append.1 hy with hy | hy
    · exact h0 y hy
    · rw [List.mem_singleton.1 hy]; exact hx
  · rw [rowC_append, List.length_append]
    have : rowC q [x] = blkC q x := by simp [rowC]
    rw [this]
    exact h1
/-- A signature's cells in block S. -/
def Sig4 (T : TypeId) (w : World) (S : Nat) (sz cut len : Int) (v : Value) : Prop := w.heap[S]? = some (.cells #[.int .i64 sz, .int .i64 cut, .int .i64 len, v] T (0, 0))
section
variable {T : TypeId} {w : World} {S : Nat} {sz cut len : Int} {v : Value}
theorem Sig4.cells (h : Sig4 T w S sz cut len v) : w.cell? ⟨S, 0, none⟩ = some (.int .i64 sz) ∧ w.cell? ⟨S, 1, none⟩ = some (.int .i64 cut) ∧ w.cell? ⟨S, 2, none⟩ = some (.int .i64 len) ∧ w.cell? ⟨S, 3, none⟩ = some v :=
  ⟨blk_cell h rfl, blk_cell h rfl, blk_cell h rfl, blk_cell h rfl⟩
theorem Sig4.free (h : Sig4 T w S sz cut len v) (i : Nat) : w.frozen? ⟨S, i, none⟩ = false := blk_free h
theorem Sig4.setList (h : Sig4 T w S sz cut len v) (x : Value) : Sig4 T (w.setCell ⟨S, 3, none⟩ x) S sz cut len x := by
  have := blk_set (i := 3) h x
  unfold Sig4
  rw [this]
  simp
theorem Sig4.below {w' : World} (h : Sig4 T w S sz cut len v) (hb : Below w.heap.size w w') : Sig4 T w' S sz cut len v := below_blk hb (heap_lt h) h
theorem Sig4.kept {w' : World} {row : Option Nat} (h : Sig4 T w S sz cut len v) (hg : w.grownBy w' row) (hS : some S ≠ row) : Sig4 T w' S sz cut len v := (hg.block S (heap_lt h) hS).trans h
end
theorem und_sig : Tryd.prog.underlying 50 = some (.struct (Tryd.prog.fieldsOf 50)) := by kernel_rfl
end Go.Proofs.YtkinpbhbgeiflaaDoor.Kd
/- The contracts of package weak's functions, and of the reference, as plain functions of lists of numbers. -/
namespace Go.Proofs.YtkinpbhbgeiflaaDoor.Wk
set_option linter.unusedVariables false
set_option linter.unusedSimpArgs false
set_option maxRecDepth 100000
open Go.ChangeShapes Go.WideShapes Go.ChangeAt Go.RowKit
open Go.Proofs.YtkinpbhbgeiflaaDoor.Wm Go.Proofs.YtkinpbhbgeiflaaDoor.Wu

theorem in_any (n l h x : Int) (w : World) (hn : 0 ≤ n) (hn' : n < 4294967296) (hl : 0 ≤ l) (hl' : l < 65536) (hh : 0 ≤ h) (hh' : h < 65536) (hx : 0 ≤ x) (hx' : x < 256) :
    Calls Tryd.prog 87 #[.agg #[.int .i64 n, .int .u16 l, .int .u16 h], .int .u8 x] w fun e w' =>
      e = .returned (.agg #[.int .i64 (n + 1), .int .u16 (IntKind.u16.wrap (l + x)), .int .u16 (IntKind.u16.wrap (h + IntKind.u16.wrap (l + x)))]) ∧ Below w.heap.size w w' := by
  go_enter Tryd.func87, Tryd.ntmps87
  go_wp2
  exact bodyPost_ret (v := .agg #[.int .i64 (n + 1), .int .u16 (IntKind.u16.wrap (l + x)), .int .u16 (IntKind.u16.wrap (h + IntKind.u16.wrap (l + x)))]) (by simp [results, Tryd.results87, go_sem]) rfl ⟨rfl, ((Below.refl _ _).alloc (Nat.le_refl _) _).alloc (by simp) _⟩

theorem size_any (n l h : Int) (w : World) :
    Calls Tryd.prog 89 #[.agg #[.int .i64 n, .int .u16 l, .int .u16 h]] w fun e w' => e = .returned (.int .i64 n) ∧ Below w.heap.size w w' := by
  go_enter Tryd.func89, Tryd.ntmps89
  go_wp2
  go_ret
  exact ⟨rfl, (Below.refl _ _).alloc (Nat.le_refl _) _⟩

theorem value_any (n l h : Int) (w : World) (hl : 0 ≤ l) (hl' : l < 65536) (hh : 0 ≤ h) (hh' : h < 65536) :
    Calls Tryd.prog 46 #[.agg #[.int .i64 n, .int .u16 l, .int .u16 h]] w fun e w' => e = .returned (.int .u32 (h * 65536 + l)) ∧ Below w.heap.size w w' := by
  have Ho := hide (or_halves h l hl hl' hh hh')
  go_enter Tryd.func46, Tryd.ntmps46
  go_wp2
  go_ret
  refine ⟨?_, (Below.refl _ _).alloc (Nat.le_refl _) _⟩
  show Ending.returned (.int .u32 (bits .or .u32 (h * 65536) l)) = _
  rw [Ho.out]

theorem out_any (n l h x : Int) (w : World) (hn : 0 < n) (hn' : n < 4294967296) (hl : 0 ≤ l) (hl' : l < 65536) (hh : 0 ≤ h) (hh' : h < 65536) (hx : 0 ≤ x) (hx' : x < 256) :
    Calls Tryd.prog 91 #[.agg #[.int .i64 n, .int .u16 l, .int .u16 h], .int .u8 x] w fun e w' =>
      e = .returned (.agg #[.int .i64 (n - 1), .int .u16 (IntKind.u16.wrap (l - x)), .int .u16 (IntKind.u16.wrap (h - IntKind.u16.wrap (IntKind.u16.wrap n * x)))]) ∧ Below w.heap.size w w' := by
  have h0 : (n == 0) = false := by simp; omega
  go_enter Tryd.func91, Tryd.ntmps91
  go_wp2
  exact bodyPost_ret (v := .agg #[.int .i64 (n - 1), .int .u16 (IntKind.u16.wrap (l - x)), .int .u16 (IntKind.u16.wrap (h - IntKind.u16.wrap (IntKind.u16.wrap n * x)))]) (by simp [results, Tryd.results91, go_sem]) rfl ⟨rfl, ((Below.refl _ _).alloc (Nat.le_refl _) _).alloc (by simp) _⟩

theorem out_none (l h x : Int) (w : World) :
    Calls Tryd.prog 91 #[.agg #[.int .i64 0, .int .u16 l, .int .u16 h], .int .u8 x] w fun e w' =>
      e = .returned (.agg #[.int .i64 0, .int .u16 l, .int .u16 h]) ∧ Below w.heap.size w w' := by
  go_enter Tryd.func91, Tryd.ntmps91
  go_wp2
  exact bodyPost_ret (v := .agg #[.int .i64 0, .int .u16 l, .int .u16 h]) (by simp [results, Tryd.results91, go_sem]) rfl ⟨rfl, ((Below.refl _ _).alloc (Nat.le_refl _) _).alloc (by simp) _⟩

theorem roll_none (l h x y : Int) (w : World) :
    Calls Tryd.prog 90 #[.agg #[.int .i64 0, .int .u16 l, .int .u16 h], .int .u8 x, .int .u8 y] w fun e w' =>
      e = .returned (.agg #[.int .i64 0, .int .u16 l, .int .u16 h]) ∧ Below w.heap.size w w' := by
  go_enter Tryd.func90, Tryd.ntmps90
  go_wp2
  exact bodyPost_ret (v := .agg #[.int .i64 0, .int .u16 l, .int .u16 h]) (by simp [results, Tryd.results90, go_sem]) rfl ⟨rfl, ((Below.refl _ _).alloc (Nat.le_refl _) _).alloc (by simp) _⟩

/-- In, of a window told by its bytes. -/
theorem in_L (L : List Int) (n x : Int) (w : World) (hn : n = L.length) (hn' : L.length < 2147483648) (hx : 0 ≤ x) (hx' : x < 256) :
    Calls Tryd.prog 87 #[.agg #[.int .i64 n, .int .u16 (lo L), .int .u16 (hi L)], .int .u8 x] w fun e w' =>
      e = .returned (.agg #[.int .i64 (n + 1), .int .u16 (lo (L ++ [x])), .int .u16 (hi (L ++ [x]))]) ∧ Below w.heap.size w w' := by
  refine (in_any n (lo L) (hi L) x w (by omega) (by omega) (lo_nonneg L) (lo_lt L) (hi_nonneg L) (hi_lt L) hx hx').mono ?_
  rintro e w' ⟨rfl, hb⟩
  refine ⟨?_, hb⟩
  rw [lo_snoc, hi_snoc]
theorem out_L (L : List Int) (n x : Int) (w : World) (hn : n = L.length + 1) (hn' : L.length < 2147483648) (hx : 0 ≤ x) (hx' : x < 256) :
    Calls Tryd.prog 91 #[.agg #[.int .i64 n, .int .u16 (lo (x :: L)), .int .u16 (hi (x :: L))], .int .u8 x] w fun e w' =>
      e = .returned (.agg #[.int .i64 (n - 1), .int .u16 (lo L), .int .u16 (hi L)]) ∧ Below w.heap.size w w' := by
  refine (out_any n (lo (x :: L)) (hi (x :: L)) x w (by omega) (by omega) (lo_nonneg _) (lo_lt _) (hi_nonneg _) (hi_lt _) hx hx').mono ?_
  rintro e w' ⟨rfl, hb⟩
  refine ⟨?_, hb⟩
  rw [lo_tail, show n = ((x :: L).length : Int) by simp; omega, hi_tail]
theorem roll_L (L : List Int) (n x y : Int) (w : World) (hn : n = L.length + 1) (hn' : L.length < 2147483648) (hx : 0 ≤ x) (hx' : x < 256) (hy : 0 ≤ y) (hy' : y < 256) :
    Calls Tryd.prog 90 #[.agg #[.int .i64 n, .int .u16 (lo (x :: L)), .int .u16 (hi (x :: L))], .int .u8 x, .int .u8 y] w fun e w' =>
      e = .returned (.agg #[.int .i64 n, .int .u16 (lo (L ++ [y])), .int .u16 (hi (L ++ [y]))]) ∧ Below w.heap.size w w' := by
  have h0 : (n == 0) = false := by simp; omega
  have H := hide hn
  have hn1 : 0 < n := by omega
  have hn2 : n < 4294967296 := by omega
  clear hn
  generalize hL : (x :: L) = M
  have HM := hide hL
  clear hL
  go_enter Tryd.func90, Tryd.ntmps90
  go_wp2_with fail
  rw [← HM.out]
  refine (out_L L n x _ H.out hn' hx hx').mono ?_
  rintro e w1 ⟨rfl, hb1⟩
  have k1 := hide (below_blk hb1 (by simp) (heap_last _ _))
  go_wp2_with fail
  refine (in_L L (n - 1) y _ (by have := H.out; omega) hn' hy hy').mono ?_
  rintro e w2 ⟨rfl, hb2⟩
  have k2 := hide (below_blk hb2 (heap_lt k1.out) k1.out)
  simp only [World.size_alloc] at k2
  have f2 := blk3 k2.out
  have z1 := heap_lt k1.out
  simp only [World.size_alloc] at z1
  have hfin := below_set3 (((((Below.refl w.heap.size w).alloc (Nat.le_refl _) _).alloc (by simp) _).trans (hb1.mono (by simp; omega))).trans (hb2.mono (by omega))) (Nat.le_succ w.heap.size)
  go_wp2
  exact bodyPost_ret (v := .agg #[.int .i64 n, .int .u16 (lo (L ++ [y])), .int .u16 (hi (L ++ [y]))]) (by simp [results, Tryd.results90, go_sem, f2]) rfl ⟨rfl, hfin _ _ _⟩

/-- Of, of a slice whose elements are told. -/
theorem of_some (b off cap : Nat) (L : List Int) (w : World) (hL : Byt L) (hlen : L.length < 2147483648) (hb : b < w.heap.size) (hc : ∀ i, i < L.length → w.cell? ⟨b, off + i, none⟩ = some (.int .u8 (L.getD i 0))) :
    Calls Tryd.prog 45 #[.slice (some ⟨b, off, none⟩) L.length cap] w fun e w' =>
      e = .returned (.agg #[.int .i64 (L.length : Int), .int .u16 (lo L), .int .u16 (hi L)]) ∧ Below w.heap.size w w' := by
  have HC := hide hc
  clear hc
  go_enter Tryd.func45, Tryd.ntmps45
  go_wp2_with fail
  have hcl : L.length = L.length := rfl
  clear hcl
  go_loopw [8, 5] (fun i _ wr => ∃ k : Nat, k ≤ L.length ∧ i = .int .i64 k ∧ wr.heap[w.heap.size + 1]? = some (.cells #[.int .i64 (k : Int), .int .u16 (lo (L.take k)), .int .u16 (hi (L.take k))] 111 (0, 0)) ∧ wr.heap[w.heap.size]? = some (.cells #[.int .i64 0, .int .u16 0, .int .u16 0] 111 (0, 0)) ∧ Below w.heap.size w wr) (fun i _ _ => L.length - (intOf i).toNat)
  case atStart => exact ⟨0, Nat.zero_le _, rfl, heap_2b _ _ _, heap_2a _ _ _, ((Below.refl _ _).alloc (Nat.le_refl _) _).alloc (by simp) _⟩
  case round =>
    obtain ⟨k, hk, rfl, h1, h0, hbel⟩ := hrel
    have H1 := hide h1
    have H0 := hide h0
    have HB := hide hbel
    have f1 := blk3 h1
    have f0 := blk3 h0
    have z1 := heap_lt h1
    clear h1 h0 hbel
    by_cases hlt : k < L.length
    · have hcx : wr.cell? ⟨b, off + k, none⟩ = some (.int .u8 (L.getD k 0)) := (HB.out.cell (p := ⟨b, off + k, none⟩) hb).trans (HC.out k hlt)
      have hx := byt_getD hL k
      have HT := hide (take_snoc L k hlt)
      generalize L.getD k 0 = x at *
      go_wp2_with fail
      refine (in_L (L.take k) k x _ (by rw [List.length_take]; omega) (by rw [List.length_take]; omega) hx.1 hx.2).mono ?_
      rintro e w2 ⟨rfl, hb2⟩
      rw [← HT.out]
      have H1' := hide (below_blk hb2 z1 H1.out)
      have H0' := hide (below_blk hb2 (by omega) H0.out)
      have f2 := blk3 H1'.out
      clear f1 f0 hcx
      go_wp2
      go_roundw
      case rel => exact ⟨k + 1, by omega, by go_num, blk3_set H1'.out _ _ _, blk_set_other (blk_set_other (blk_set_other H0'.out (by omega) _) (by omega) _) (by omega) _, below_set3 (HB.out.trans (hb2.mono (by omega))) (Nat.le_succ _) _ _ _⟩
      case measure => simp [intOf]; omega
    · have hkl : k = L.length := by omega
      subst hkl
      rw [List.take_length] at f1
      go_wp2
      exact bodyPost_ret (v := .agg #[.int .i64 (L.length : Int), .int .u16 (lo L), .int .u16 (hi L)]) (by simp [results, Tryd.results45, go_sem, f0]) rfl ⟨rfl, below_set3 HB.out (Nat.le_refl _) _ _ _⟩
end Go.Proofs.YtkinpbhbgeiflaaDoor.Wk
/- More contracts of package weak: Of at nothing, Of at three bytes, Roll at abc. -/
namespace Go.Proofs.YtkinpbhbgeiflaaDoor.Wc
set_option linter.unusedVariables false
set_option linter.unusedSimpArgs false
set_option maxRecDepth 100000
open Go.ChangeShapes Go.WideShapes Go.ChangeAt Go.RowKit
open Go.Proofs.YtkinpbhbgeiflaaDoor.Wm Go.Proofs.YtkinpbhbgeiflaaDoor.Wu Go.Proofs.YtkinpbhbgeiflaaDoor.Wk

theorem of_none (a : Option Addr) (cap : Nat) (w : World) :
    Calls Tryd.prog 45 #[.slice a 0 cap] w fun e w' =>
      e = .returned (.agg #[.int .i64 0, .int .u16 0, .int .u16 0]) ∧ Below w.heap.size w w' := by
  go_enter Tryd.func45, Tryd.ntmps45
  go_wp2_with fail
  refine wp_loop_rounds 1 ?_
  rw [rounds_succ]
  go_wp2
  refine bodyPost_ret (v := .agg #[.int .i64 0, .int .u16 0, .int .u16 0]) (by simp [results, Tryd.results45, go_sem]) rfl ⟨rfl, ?_⟩
  exact ((Below.refl _ _).alloc (Nat.le_refl _) _).alloc (by simp) _

theorem of_const (b cap : Nat) (x y z : Int) (m : Nat × Nat) (T : TypeId) (w : World) (hx : Byt [x, y, z]) (hw : w.heap[b]? = some (.cells #[.int .u8 x, .int .u8 y, .int .u8 z] T m)) :
    Calls Tryd.prog 45 #[.slice (some ⟨b, 0, none⟩) 3 cap] w fun e w' =>
      e = .returned (.agg #[.int .i64 3, .int .u16 (lo [x, y, z]), .int .u16 (hi [x, y, z])]) ∧ Below w.heap.size w w' := by
  refine of_some b 0 cap [x, y, z] w hx (by simp) (heap_lt hw) (fun i hi => ?_)
  match i, hi with
  | 0, _ => exact blk_cell hw rfl
  | 1, _ => exact blk_cell hw rfl
  | 2, _ => exact blk_cell hw rfl
theorem of_abc (b cap : Nat) (m : Nat × Nat) (T : TypeId) (w : World) (hw : w.heap[b]? = some (.cells #[.int .u8 97, .int .u8 98, .int .u8 99] T m)) :
    Calls Tryd.prog 45 #[.slice (some ⟨b, 0, none⟩) 3 cap] w fun e w' =>
      e = .returned (.agg #[.int .i64 3, .int .u16 294, .int .u16 586]) ∧ Below w.heap.size w w' := of_const b cap 97 98 99 m T w (by intro z hz; simp only [List.mem_cons, List.not_mem_nil, or_false] at hz; omega) hw
theorem of_bcd (b cap : Nat) (m : Nat × Nat) (T : TypeId) (w : World) (hw : w.heap[b]? = some (.cells #[.int .u8 98, .int .u8 99, .int .u8 100] T m)) :
    Calls Tryd.prog 45 #[.slice (some ⟨b, 0, none⟩) 3 cap] w fun e w' =>
      e = .returned (.agg #[.int .i64 3, .int .u16 297, .int .u16 592]) ∧ Below w.heap.size w w' := of_const b cap 98 99 100 m T w (by intro z hz; simp only [List.mem_cons, List.not_mem_nil, or_false] at hz; omega) hw
theorem roll_abc (w : World) :
    Calls Tryd.prog 90 #[.agg #[.int .i64 3, .int .u16 294, .int .u16 586], .int .u8 97, .int .u8 100] w fun e w' =>
      e = .returned (.agg #[.int .i64 3, .int .u16 297, .int .u16 592]) ∧ Below w.heap.size w w' := roll_L [98, 99] 3 97 100 w rfl (by simp) (by omega) (by omega) (by omega) (by omega)

/-- Of, at a slice of n bytes. -/
theorem of_row (b off cap n : Nat) (L : List Int) (w : World) (hn : L.length = n) (hL : Byt L) (hlen : n < 2147483648) (hb : b < w.heap.size) (hc : ∀ i, i < n → w.cell? ⟨b, off + i, none⟩ = some (.int .u8 (L.getD i 0))) :
    Calls Tryd.prog 45 #[.slice (some ⟨b, off, none⟩) n cap] w fun e w' =>
      e = .returned (.agg #[.int .i64 (n : Int), .int .u16 (lo L), .int .u16 (hi L)]) ∧ Below w.heap.size w w' := by
  subst hn
  exact of_some b off cap L w hL hlen hb hc
end Go.Proofs.YtkinpbhbgeiflaaDoor.Wc
/- A region that asks the tape for its order, walked in the order of the text: some operations (in one forced order among themselves) yield values that hang on the world; some, behind all of these that stand ahead of them, yield one that hangs on theirs; all others yield one value each. For any program. -/
namespace Go.Proofs.YtkinpbhbgeiflaaDoor.Rg
set_option linter.unusedVariables false
set_option linter.unusedSimpArgs false
set_option maxRecDepth 100000
open Go.Proofs.YtkinpbhbgeiflaaDoor.Rk
section
variable {P : Program} {ops : Array Oper} {md : Region.Mode} {T : List Value → World → Prop}
/-- The operation yields v in every world of every stage from h on, and keeps the stage. -/
def KeepsF (P : Program) (ops : Array Oper) (T : List Value → World → Prop) (h : List Value) (o : Oper) (v : Value) (a : Act) : Prop :=
  (Region.wanted o (yielded ops a.tmps) = true ∧ ∀ (h' : List Value) (w : World) (K : Value → World → Prop), T (h ++ h') w → (∀ w', T (h ++ h') w' → K v w') → kUpon P K ((execOp a.eval o).run P w)) ∨
  (Region.wanted o (yielded ops a.tmps) = false ∧ v = undef)
theorem KeepsF.up {h : List Value} {o : Oper} {v : Value} {a : Act} (hy : KeepsF P ops T h o v a) (u : Value) : KeepsF P ops T (h ++ [u]) o v a := by
  rcases hy with ⟨h1, h2⟩ | h
  · refine .inl ⟨h1, fun h' w K hT hK => ?_⟩
    rw [List.append_assoc] at hT
    refine h2 ([u] ++ h') w K hT (fun w' hT' => hK w' ?_)
    rw [List.append_assoc]; exact hT'
  · exact .inr h
theorem KeepsF.all {h : List Value} {o : Oper} {v : Value} {a : Act} (hy : KeepsF P ops T [] o v a) : KeepsF P ops T h o v a := by
  rcases hy with ⟨h1, h2⟩ | h
  · exact .inl ⟨h1, fun h' w K hT hK => h2 (h ++ h') w K hT hK⟩
  · exact .inr h
/-- The operation leads from this stage to the next one, whatever it yields (of the kind V). -/
def KeepsD (P : Program) (ops : Array Oper) (T : List Value → World → Prop) (h : List Value) (V : Value → Prop) (o : Oper) (a : Act) : Prop :=
  Region.wanted o (yielded ops a.tmps) = true ∧ (∃ v, V v) ∧ ∀ (w : World) (K : Value → World → Prop), T h w → (∀ v w', V v → T (h ++ [v]) w' → K v w') → kUpon P K ((execOp a.eval o).run P w)
theorem KeepsF.of_same {h : List Value} {o : Oper} {v : Value} {a a' : Act} (hy : KeepsF P ops T h o v a) (he : execOp a'.eval o = execOp a.eval o)
    (hw : Region.wanted o (yielded ops a'.tmps) = Region.wanted o (yielded ops a.tmps)) : KeepsF P ops T h o v a' := by
  unfold KeepsF at *
  rw [he, hw]
  exact hy
theorem KeepsD.of_same {h : List Value} {V : Value → Prop} {o : Oper} {a a' : Act} (hy : KeepsD P ops T h V o a) (he : execOp a'.eval o = execOp a.eval o)
    (hw : Region.wanted o (yielded ops a'.tmps) = Region.wanted o (yielded ops a.tmps)) : KeepsD P ops T h V o a' := by
  unfold KeepsD at *
  rw [he, hw]
  exact hy
/-- In whatever order; 'c k' is the value of the k-th operation; 'some none', if it hangs on those that hang on the world; none, if it hangs on the world itself. -/
def wpAnyD (P : Program) (md : Region.Mode) (ops : Array Oper) (T : List Value → World → Prop) (c : Nat → Option (Option Value)) (Q : Act → List Value → Prop) : Nat → Array Bool → Act → List Value → Prop
  | 0, listed, a, h => Region.ready md ops listed = [] ∧ Q a h
  | fuel + 1, listed, a, h => (Region.ready md ops listed = [] → Q a h) ∧
      ∀ i ∈ Region.ready md ops listed, ∀ o, ops[i]? = some o →
        (∀ v, c i = some (some v) → KeepsF P ops T [] o v a ∧ wpAnyD P md ops T c Q fuel (listed.setIfInBounds i true) (a.put o.dst v) h) ∧
        (c i = some none → ∃ v, KeepsF P ops T h o v a ∧ wpAnyD P md ops T c Q fuel (listed.setIfInBounds i true) (a.put o.dst v) h) ∧
        (c i = none → ∃ V : Value → Prop, KeepsD P ops T h V o a ∧ ∀ v, V v → wpAnyD P md ops T c Q fuel (listed.setIfInBounds i true) (a.put o.dst v) (h ++ [v]))
theorem wpAny_of_D {c : Nat → Option (Option Value)} {Q : Act → List Value → Prop} {Q' : Exit → Act → World → Prop} (hQ : ∀ a h, Q a h → ∀ w, T h w → Q' .normal a w) :
    ∀ (fuel : Nat) (listed : Array Bool) (a : Act) (h : List Value) (w : World), T h w → wpAnyD P md ops T c Q fuel listed a h → wpAny P md ops Q' fuel listed a w
  | 0, listed, a, h, w, hS, H => ⟨H.1, hQ a h H.2 w hS⟩
  | fuel + 1, listed, a, h, w, hS, H => by
    refine ⟨fun h0 => hQ a h (H.1 h0) w hS, fun i hi => ?_⟩
    unfold wpOp
    cases ho : ops[i]? with
    | none =>
      obtain ⟨_, o, hoo, _⟩ := mem_ready.1 hi
      rw [ho] at hoo; cases hoo
    | some o =>
      obtain ⟨hF, hG, hD⟩ := H.2 i hi o ho
      have both : ∀ v, KeepsF P ops T h o v a → wpAnyD P md ops T c Q fuel (listed.setIfInBounds i true) (a.put o.dst v) h → (if Region.wanted o (yielded ops a.tmps) = true then o.wp P a w (wpAny P md ops Q' fuel (listed.setIfInBounds i true)) Q' ∨ (o.asks P a w ∧ LetsOut Q') else wpAny P md ops Q' fuel (listed.setIfInBounds i true) (a.put o.dst undef) w) := by
        intro v hk hn
        have next : ∀ w', T h w' → wpAny P md ops Q' fuel (listed.setIfInBounds i true) (a.put o.dst v) w' := fun w' hS' => wpAny_of_D hQ fuel _ _ h w' hS' hn
        rcases hk with ⟨hw, hk⟩ | ⟨hw, rfl⟩
        · simp only [hw, if_true]
          refine Or.inl ?_
          have h1 := hk [] w (fun x w' => x = v ∧ T h w') (by rw [List.append_nil]; exact hS) (fun w' hS' => ⟨rfl, by rw [List.append_nil] at hS'; exact hS'⟩)
          unfold Oper.wp
          generalize (execOp a.eval o).run P w = r at h1
          cases r with
          | ok n w1 =>
            cases n <;> simp only [kUpon] at h1
            case value x => obtain ⟨rfl, h2⟩ := h1; exact next _ h2
            case skip => obtain ⟨rfl, h2⟩ := h1; exact next _ h2
            case enter f args =>
              show Calls P f args w1 _
              refine h1.mono fun e w2 he => ?_
              cases e with
              | returned x => obtain ⟨rfl, h2⟩ := he; exact next _ h2
              | panicked c => exact he.elim
              | outgrown => exact he.elim
          | halt x w1 => simp only [kUpon] at h1
        · simp only [hw, Bool.false_eq_true, if_false]
          exact next w hS
      cases hc : c i with
      | some ov =>
        cases ov with
        | some v =>
          obtain ⟨hk, hn⟩ := hF v hc
          exact both v hk.all hn
        | none =>
          obtain ⟨v, hk, hn⟩ := hG hc
          exact both v hk hn
      | none =>
        obtain ⟨V, ⟨hw, _, hk⟩, hn⟩ := hD hc
        have next : ∀ v w', V v ∧ T (h ++ [v]) w' → wpAny P md ops Q' fuel (listed.setIfInBounds i true) (a.put o.dst v) w' := fun v w' hS' => wpAny_of_D hQ fuel _ _ (h ++ [v]) w' hS'.2 (hn v hS'.1)
        simp only [hw, if_true]
        refine Or.inl ?_
        have h1 := hk w (fun x w' => V x ∧ T (h ++ [x]) w') hS (fun v w' hv hS' => ⟨hv, hS'⟩)
        unfold Oper.wp
        generalize (execOp a.eval o).run P w = r at h1
        cases r with
        | ok n w1 =>
          cases n <;> simp only [kUpon] at h1
          case value x => exact next _ _ h1
          case skip => exact next _ _ h1
          case enter f args =>
            show Calls P f args w1 _
            refine h1.mono fun e w2 he => ?_
            cases e with
            | returned x => exact next _ _ he
            | panicked c => exact he.elim
            | outgrown => exact he.elim
        | halt x w1 => simp only [kUpon] at h1
/-- Whether an operation waits for another one, by however many others. -/
def waits (md : Region.Mode) (ops : Array Oper) (i : Nat) : Nat → Nat → Bool
  | 0, _ => false
  | f + 1, j => match ops[j]? with
    | none => false
    | some o => o.after.any fun e => Region.binds md e && (e.on == i || waits md ops i f e.on)
/-- What is done has all done that it waits for. -/
def Closed (md : Region.Mode) (ops : Array Oper) (listed : Array Bool) : Prop :=
  ∀ k o, listed.getD k false = true → ops[k]? = some o → ∀ e ∈ o.after, Region.binds md e = true → listed.getD e.on false = true
theorem getD_both {listed : Array Bool} {i : Nat} (h : listed.getD i true = false) : listed.getD i false = false := by
  rcases Nat.lt_or_ge i listed.size with h' | h'
  · simpa [h'] using h
  · simp [Array.getElem?_eq_none h'] at h
theorem Closed.set {listed : Array Bool} {j : Nat} (hc : Closed md ops listed) (hj : j ∈ Region.ready md ops listed) : Closed md ops (listed.setIfInBounds j true) := by
  obtain ⟨hjun, oj, hoj, hall⟩ := mem_ready.1 hj
  have mono : ∀ x, listed.getD x false = true → (listed.setIfInBounds j true).getD x false = true := by
    intro x hx
    by_cases hxj : j = x
    · subst hxj
      rw [getD_both hjun] at hx; cases hx
    · rw [getD_set_ne false hxj]; exact hx
  intro k o hk ho e he hb
  by_cases hkj : j = k
  · subst hkj
    obtain rfl := Option.some.inj (hoj.symm.trans ho)
    exact mono _ (hall e he hb)
  · rw [getD_set_ne false hkj] at hk
    exact mono _ (hc k o hk ho e he hb)
theorem waits_not {listed : Array Bool} {i : Nat} (hc : Closed md ops listed) (hi : listed.getD i true = false) : ∀ f j o, ops[j]? = some o → waits md ops i f j = true → ¬ (∀ e ∈ o.after, Region.binds md e = true → listed.getD e.on false = true)
  | 0, j, o, ho, hw, _ => by simp [waits] at hw
  | f + 1, j, o, ho, hw, hall => by
    simp only [waits, ho, Array.any_eq_true', Bool.and_eq_true, Bool.or_eq_true, beq_iff_eq] at hw
    obtain ⟨e, he, hb, h⟩ := hw
    have hl := hall e he hb
    rcases h with h | h
    · rw [h, getD_both hi] at hl; cases hl
    · cases hoe : ops[e.on]? with
      | none =>
        cases f with
        | zero => simp [waits] at h
        | succ f => simp [waits, hoe] at h
      | some oe => exact waits_not hc hi f e.on oe hoe h (fun e' he' hb' => hc e.on oe hl hoe e' he' hb')
section
variable {c : Nat → Option (Option Value)} {Q : Act → List Value → Prop} {i : Nat} {oi : Oper}
/-- One of a known value can be taken first; 'p' is the stage from which on it has it. -/
theorem firstF {v : Value} (late : Bool) (hi : ops[i]? = some oi) (hci : c i = some (if late then none else some v)) (hsel : ∀ (j : Nat) (o : Oper) cs b, ops[j]? = some o → o.op ≠ .select cs b) :
    ∀ (fuel : Nat) (listed : Array Bool) (a : Act) (h : List Value),
      (∀ j oj, ops[j]? = some oj → j ≠ i → listed.getD j true = false → (∀ e ∈ oj.after, Region.binds md e = true → e.on ≠ i) → oi.apart ops oj = true) →
      i ∈ Region.ready md ops listed → KeepsF P ops T (if late then h else []) oi v a →
      wpAnyD P md ops T c Q fuel (listed.setIfInBounds i true) (a.put oi.dst v) h → wpAnyD P md ops T c Q (fuel + 1) listed a h := by
  intro fuel
  have atI : ∀ (f : Nat) (listed : Array Bool) (a : Act) (h : List Value), KeepsF P ops T (if late then h else []) oi v a → wpAnyD P md ops T c Q f (listed.setIfInBounds i true) (a.put oi.dst v) h →
      (∀ u, c i = some (some u) → KeepsF P ops T [] oi u a ∧ wpAnyD P md ops T c Q f (listed.setIfInBounds i true) (a.put oi.dst u) h) ∧
      (c i = some none → ∃ u, KeepsF P ops T h oi u a ∧ wpAnyD P md ops T c Q f (listed.setIfInBounds i true) (a.put oi.dst u) h) ∧
      (c i = none → ∃ V : Value → Prop, KeepsD P ops T h V oi a ∧ ∀ u, V u → wpAnyD P md ops T c Q f (listed.setIfInBounds i true) (a.put oi.dst u) (h ++ [u])) := by
    intro f listed a h hy H
    refine ⟨fun u hu => ?_, fun hn => ?_, fun hn => by rw [hci] at hn; cases hn⟩
    · cases late with
      | true => rw [hci] at hu; simp at hu
      | false =>
        rw [hci] at hu
        simp at hu
        subst hu
        exact ⟨hy, H⟩
    · cases late with
      | true => exact ⟨v, hy, H⟩
      | false => rw [hci] at hn; simp at hn
  induction fuel with
  | zero =>
    intro listed a h _ hr hy H
    refine ⟨fun h => (by rw [h] at hr; cases hr), fun j hj oj hoj => ?_⟩
    by_cases hji : j = i
    · subst hji
      obtain rfl := Option.some.inj (hi.symm.trans hoj)
      exact atI 0 listed a h hy H
    · have := ready_mono hj hji
      rw [H.1] at this
      cases this
  | succ fuel ih =>
    intro listed a h hfree hr hy H
    refine ⟨fun h => (by rw [h] at hr; cases hr), fun j hj oj hoj => ?_⟩
    by_cases hji : j = i
    · subst hji
      obtain rfl := Option.some.inj (hi.symm.trans hoj)
      exact atI (fuel + 1) listed a h hy H
    · obtain ⟨hF, hG, hD⟩ := H.2 j (ready_mono hj hji) oj hoj
      obtain ⟨hjun, oj', hoj', hall⟩ := mem_ready.1 hj
      obtain rfl := Option.some.inj (hoj.symm.trans hoj')
      have hnot : ∀ e ∈ oj.after, Region.binds md e = true → e.on ≠ i := fun e he hb heq => by
        have h1 := hall e he hb
        rw [heq, getD_both (mem_ready.1 hr).1] at h1
        cases h1
      have hap := hfree j oj hoj hji hjun hnot
      obtain ⟨a1, a2, a3⟩ := Oper.apart_spec hap
      have hsi := fun cs b => hsel i oi cs b hi
      have hsj := fun cs b => hsel j oj cs b hoj
      have hfree' : ∀ k ok, ops[k]? = some ok → k ≠ i → (listed.setIfInBounds j true).getD k true = false →
          (∀ e ∈ ok.after, Region.binds md e = true → e.on ≠ i) → oi.apart ops ok = true := fun k ok hk hki hun hno => by
        refine hfree k ok hk hki ?_ hno
        by_cases hjk : j = k
        · subst hjk; exact hjun
        · rw [getD_set_ne true hjk] at hun; exact hun
      refine ⟨fun u hu => ?_, fun hn => ?_, fun hn => ?_⟩
      · obtain ⟨hk, hnx⟩ := hF u hu
        refine ⟨hk.of_same (execOp_put oj hsj a oi.dst v a1).symm (wanted_put oj a oi.dst v a1).symm, ?_⟩
        refine ih (listed.setIfInBounds j true) (a.put oj.dst u) h hfree' (ready_mono hr (Ne.symm hji)) (hy.of_same (execOp_put oi hsi a oj.dst u a3) (wanted_put oi a oj.dst u a3)) ?_
        rw [Array.setIfInBounds_comm _ _ hji, ← Act.put_comm a v u a2]
        exact hnx
      · obtain ⟨u, hk, hnx⟩ := hG hn
        refine ⟨u, hk.of_same (execOp_put oj hsj a oi.dst v a1).symm (wanted_put oj a oi.dst v a1).symm, ?_⟩
        refine ih (listed.setIfInBounds j true) (a.put oj.dst u) h hfree' (ready_mono hr (Ne.symm hji)) (hy.of_same (execOp_put oi hsi a oj.dst u a3) (wanted_put oi a oj.dst u a3)) ?_
        rw [Array.setIfInBounds_comm _ _ hji, ← Act.put_comm a v u a2]
        exact hnx
      · obtain ⟨V, hk, hnx⟩ := hD hn
        refine ⟨V, hk.of_same (execOp_put oj hsj a oi.dst v a1).symm (wanted_put oj a oi.dst v a1).symm, fun u hu => ?_⟩
        have hy2 : KeepsF P ops T (if late then h ++ [u] else []) oi v a := by
          cases late with
          | true => exact hy.up u
          | false => exact hy
        refine ih (listed.setIfInBounds j true) (a.put oj.dst u) (h ++ [u]) hfree' (ready_mono hr (Ne.symm hji)) (hy2.of_same (execOp_put oi hsi a oj.dst u a3) (wanted_put oi a oj.dst u a3)) ?_
        rw [Array.setIfInBounds_comm _ _ hji, ← Act.put_comm a v u a2]
        exact hnx u hu
theorem firstD {V : Value → Prop} (hi : ops[i]? = some oi) (hci : c i = none) (hsel : ∀ (j : Nat) (o : Oper) cs b, ops[j]? = some o → o.op ≠ .select cs b) :
    ∀ (fuel : Nat) (listed : Array Bool) (a : Act) (h : List Value), Closed md ops listed →
      (∀ j, (∀ v, c j ≠ some (some v)) → j ≠ i → listed.getD j true = false → ∃ f, waits md ops i f j = true) →
      (∀ j oj, ops[j]? = some oj → j ≠ i → listed.getD j true = false → (∀ e ∈ oj.after, Region.binds md e = true → e.on ≠ i) → oi.apart ops oj = true) →
      i ∈ Region.ready md ops listed → KeepsD P ops T h V oi a →
      (∀ v, V v → wpAnyD P md ops T c Q fuel (listed.setIfInBounds i true) (a.put oi.dst v) (h ++ [v])) → wpAnyD P md ops T c Q (fuel + 1) listed a h := by
  intro fuel
  induction fuel with
  | zero =>
    intro listed a h _ _ _ hr hy H
    refine ⟨fun h => (by rw [h] at hr; cases hr), fun j hj oj hoj => ?_⟩
    by_cases hji : j = i
    · subst hji
      obtain rfl := Option.some.inj (hi.symm.trans hoj)
      exact ⟨fun u hu => absurd (hci.symm.trans hu) (fun e => by cases e), fun hu => absurd (hci.symm.trans hu) (fun e => by cases e), fun _ => ⟨V, hy, H⟩⟩
    · have := ready_mono hj hji
      obtain ⟨v0, hv0⟩ := hy.2.1
      rw [(H v0 hv0).1] at this
      cases this
  | succ fuel ih =>
    intro listed a h hcl hch hfree hr hy H
    refine ⟨fun h => (by rw [h] at hr; cases hr), fun j hj oj hoj => ?_⟩
    by_cases hji : j = i
    · subst hji
      obtain rfl := Option.some.inj (hi.symm.trans hoj)
      exact ⟨fun u hu => absurd (hci.symm.trans hu) (fun e => by cases e), fun hu => absurd (hci.symm.trans hu) (fun e => by cases e), fun _ => ⟨V, hy, H⟩⟩
    · obtain ⟨hjun, oj', hoj', hall⟩ := mem_ready.1 hj
      obtain rfl := Option.some.inj (hoj.symm.trans hoj')
      have hiun := (mem_ready.1 hr).1
      have hnot : ∀ e ∈ oj.after, Region.binds md e = true → e.on ≠ i := fun e he hb heq => by
        have h1 := hall e he hb
        rw [heq, getD_both hiun] at h1
        cases h1
      have hap := hfree j oj hoj hji hjun hnot
      obtain ⟨a1, a2, a3⟩ := Oper.apart_spec hap
      have hsi := fun cs b => hsel i oi cs b hi
      have hsj := fun cs b => hsel j oj cs b hoj
      have keepun : ∀ k, (listed.setIfInBounds j true).getD k true = false → listed.getD k true = false := fun k hun => by
        by_cases hjk : j = k
        · subst hjk; exact hjun
        · rw [getD_set_ne true hjk] at hun; exact hun
      have hfree' : ∀ k ok, ops[k]? = some ok → k ≠ i → (listed.setIfInBounds j true).getD k true = false →
          (∀ e ∈ ok.after, Region.binds md e = true → e.on ≠ i) → oi.apart ops ok = true := fun k ok hk hki hun hno => hfree k ok hk hki (keepun k hun) hno
      refine ⟨fun u hu => ?_, fun hn => ?_, fun hn => ?_⟩
      · have hall2 := fun v hv => ((H v hv).2 j (ready_mono hj hji) oj hoj).1 u hu
        obtain ⟨v0, hv0⟩ := hy.2.1
        refine ⟨(hall2 v0 hv0).1.of_same (execOp_put oj hsj a oi.dst v0 a1).symm (wanted_put oj a oi.dst v0 a1).symm, ?_⟩
        refine ih (listed.setIfInBounds j true) (a.put oj.dst u) h (hcl.set hj) (fun k hk hki hun => hch k hk hki (keepun k hun)) hfree' (ready_mono hr (Ne.symm hji)) (hy.of_same (execOp_put oi hsi a oj.dst u a3) (wanted_put oi a oj.dst u a3)) (fun v hv => ?_)
        rw [Array.setIfInBounds_comm _ _ hji, ← Act.put_comm a v u a2]
        exact (hall2 v hv).2
      · obtain ⟨f, hw⟩ := hch j (fun v hv => by rw [hn] at hv; cases hv) hji hjun
        exact absurd hall (waits_not hcl hiun f j oj hoj hw)
      · obtain ⟨f, hw⟩ := hch j (fun v hv => by rw [hn] at hv; cases hv) hji hjun
        exact absurd hall (waits_not hcl hiun f j oj hoj hw)
end
/-- The walk in the order of the text. -/
def wpLexD (P : Program) (ops : Array Oper) (T : List Value → World → Prop) (Q : Act → List Value → Prop) : List Oper → List (Option (Option Value)) → Act → List Value → Prop
  | [], _, a, h => Q a h
  | o :: l, some (some v) :: cs, a, h => KeepsF P ops T [] o v a ∧ wpLexD P ops T Q l cs (a.put o.dst v) h
  | o :: l, some none :: cs, a, h => ∃ v, KeepsF P ops T h o v a ∧ wpLexD P ops T Q l cs (a.put o.dst v) h
  | o :: l, none :: cs, a, h => ∃ V : Value → Prop, KeepsD P ops T h V o a ∧ ∀ v, V v → wpLexD P ops T Q l cs (a.put o.dst v) (h ++ [v])
  | _ :: _, [], _, _ => False
/-- Those whose values hang on the world, and those that hang on them, wait for the former that stand ahead of them. -/
def chainD (md : Region.Mode) (ops : Array Oper) (ds gs : List Nat) : Bool :=
  ds.all fun i => gs.all fun j => decide (j ≤ i) || waits md ops i ops.size j
def nones : List (Option (Option Value)) → Nat → List Nat
  | [], _ => []
  | none :: l, k => k :: nones l (k + 1)
  | some _ :: l, k => nones l (k + 1)
def lates : List (Option (Option Value)) → Nat → List Nat
  | [], _ => []
  | none :: l, k => k :: lates l (k + 1)
  | some none :: l, k => k :: lates l (k + 1)
  | some (some _) :: l, k => lates l (k + 1)
theorem nones_mem : ∀ (l : List (Option (Option Value))) (k j : Nat), l[j]? = some none → k + j ∈ nones l k
  | [], k, j, h => by simp at h
  | none :: l, k, 0, h => by simp [nones]
  | none :: l, k, j + 1, h => by
    have := nones_mem l (k + 1) j (by simpa using h)
    rw [nones]
    exact List.mem_cons_of_mem _ (by rwa [show k + (j + 1) = k + 1 + j by omega])
  | some _ :: l, k, 0, h => by simp at h
  | some _ :: l, k, j + 1, h => by
    have := nones_mem l (k + 1) j (by simpa using h)
    rw [nones]
    rwa [show k + (j + 1) = k + 1 + j by omega]
theorem lates_mem : ∀ (l : List (Option (Option Value))) (k j : Nat) (x : Option (Option Value)), l[j]? = some x → (∀ v, x ≠ some (some v)) → k + j ∈ lates l k
  | [], k, j, x, h, _ => by simp at h
  | none :: l, k, 0, x, h, _ => by simp [lates]
  | none :: l, k, j + 1, x, h, hx => by
    have := lates_mem l (k + 1) j x (by simpa using h) hx
    rw [lates]
    exact List.mem_cons_of_mem _ (by rwa [show k + (j + 1) = k + 1 + j by omega])
  | some none :: l, k, 0, x, h, _ => by simp [lates]
  | some none :: l, k, j + 1, x, h, hx => by
    have := lates_mem l (k + 1) j x (by simpa using h) hx
    rw [lates]
    exact List.mem_cons_of_mem _ (by rwa [show k + (j + 1) = k + 1 + j by omega])
  | some (some v) :: l, k, 0, x, h, hx => by
    simp at h
    exact absurd h.symm (hx v)
  | some (some _) :: l, k, j + 1, x, h, hx => by
    have := lates_mem l (k + 1) j x (by simpa using h) hx
    rw [lates]
    rwa [show k + (j + 1) = k + 1 + j by omega]
theorem lexD {c : Nat → Option (Option Value)} {Q : Act → List Value → Prop} (hs : Region.noSelect ops = true) (hch : ∀ i j, c i = none → (∀ v, c j ≠ some (some v)) → i < j → ∃ f, waits md ops i f j = true) :
    ∀ (l : List Oper) (cs : List (Option (Option Value))) (k : Nat) (listed : Array Bool) (a : Act) (h : List Value), (∀ j, l[j]? = ops[k + j]?) → (∀ j x, cs[j]? = some x → c (k + j) = x) →
    Closed md ops listed → (∀ j, j < k → listed.getD j true = true) →
    Region.lexFrom md ops l.length k listed = true → wpLexD P ops T Q l cs a h → wpAnyD P md ops T c Q l.length listed a h
  | [], _, _, _, _, _, _, _, _, _, hB, H => ⟨by simpa [Region.lexFrom] using hB, by simpa [wpLexD] using H⟩
  | o :: l, [], _, _, _, _, _, _, _, _, _, H => by simp [wpLexD] at H
  | o :: l, x :: cs, k, listed, a, h, hl, hcs, hcl, hlt, hB, H => by
    have h0 : ops[k]? = some o := by simpa using (hl 0).symm
    have hck : c k = x := by simpa using hcs 0 x (by simp)
    simp only [List.length_cons, Region.lexFrom, Bool.and_eq_true] at hB
    obtain ⟨⟨hr, hf⟩, hB'⟩ := hB
    have hr' : k ∈ Region.ready md ops listed := by simpa using hr
    have hl' : ∀ j, l[j]? = ops[k + 1 + j]? := fun j => by have := hl (j + 1); simpa [Nat.add_assoc, Nat.add_comm 1 j] using this
    have hcs' : ∀ j y, cs[j]? = some y → c (k + 1 + j) = y := fun j y hy => by
      have := hcs (j + 1) y (by simpa using hy)
      rwa [show k + 1 + j = k + (j + 1) by omega]
    have hlt' : ∀ j, j < k + 1 → (listed.setIfInBounds k true).getD j true = true := fun j hj => by
      by_cases e : k = j
      · subst e
        rcases Nat.lt_or_ge k listed.size with h' | h'
        · simp [h']
        · simp [h']
      · rw [getD_set_ne true e]; exact hlt j (by omega)
    match x, hck, H with
    | some (some v), hck, H =>
      obtain ⟨hy, hK⟩ := H
      exact firstF false h0 hck (Region.noSelect_spec hs) l.length listed a h (Region.free_spec h0 hf) hr' hy (lexD hs hch l cs (k + 1) _ _ h hl' hcs' (hcl.set hr') hlt' hB' hK)
    | some none, hck, H =>
      obtain ⟨v, hy, hK⟩ := H
      exact firstF (v := v) true h0 hck (Region.noSelect_spec hs) l.length listed a h (Region.free_spec h0 hf) hr' hy (lexD hs hch l cs (k + 1) _ _ h hl' hcs' (hcl.set hr') hlt' hB' hK)
    | none, hck, H =>
      obtain ⟨V, hy, hK⟩ := H
      refine firstD h0 hck (Region.noSelect_spec hs) l.length listed a h hcl (fun j hj hjk hun => ?_) (Region.free_spec h0 hf) hr' hy (fun v hv => lexD hs hch l cs (k + 1) _ _ (h ++ [v]) hl' hcs' (hcl.set hr') hlt' hB' (hK v hv))
      refine hch k j hck hj ?_
      rcases Nat.lt_or_ge k j with h1 | h1
      · exact h1
      · have := hlt j (by omega)
        rw [hun] at this; cases this
/-- The region. -/
theorem wp_region_g {id : Nat} {Q : Exit → Act → World → Prop} {a : Act} {w : World} {l : List Oper} (T : List Value → World → Prop) (cs : List (Option (Option Value))) (hm : P.follows .mixedOrders = true) (hB : Region.lexB .any l.toArray = true) (ds gs : List Nat) (hds : nones cs 0 = ds) (hgs : lates cs 0 = gs) (hD : chainD .any l.toArray ds gs = true) (hS : T [] w.drew)
    (h : wpLexD P l.toArray T (fun a' h' => ∀ w', T h' w' → Q .normal a' w') l cs a []) : (Code.region id l.toArray true).wp P Q a w := by
  simp only [Region.lexB, Bool.and_eq_true] at hB
  refine wp_region_any hm (wpAny_of_D (T := T) (c := fun k => (cs[k]?).getD (some (some undef))) (Q := fun a' h' => ∀ w', T h' w' → Q .normal a' w') (fun _ _ h => h) _ _ _ [] _ hS ?_)
  have hch : ∀ i j, (cs[i]?).getD (some (some undef)) = none → (∀ v, (cs[j]?).getD (some (some undef)) ≠ some (some v)) → i < j → ∃ f, waits .any l.toArray i f j = true := by
    intro i j hi hj hij
    have mi : i ∈ ds := by
      rw [← hds]
      cases hx : cs[i]? with
      | none => rw [hx] at hi; cases hi
      | some x =>
        rw [hx] at hi
        have := nones_mem cs 0 i (by rw [hx]; exact congrArg some hi)
        rwa [Nat.zero_add] at this
    have mj : j ∈ gs := by
      rw [← hgs]
      cases hx : cs[j]? with
      | none => rw [hx] at hj; exact absurd rfl (hj undef)
      | some x =>
        rw [hx] at hj
        have := lates_mem cs 0 j x hx hj
        rwa [Nat.zero_add] at this
    unfold chainD at hD
    have h1 := List.all_eq_true.1 (List.all_eq_true.1 hD i mi) j mj
    simp only [Bool.or_eq_true, decide_eq_true_eq] at h1
    rcases h1 with h1 | h1
    · omega
    · exact ⟨_, h1⟩
  have := lexD (md := .any) (T := T) hB.1 hch l cs 0 (Array.replicate l.toArray.size false) a [] (by simp) (fun j x hx => by simp [hx]) (fun k o hk => by simp [Array.getElem?_replicate] at hk; split at hk <;> simp at hk) (fun j hj => by omega) (by simpa using hB.2) h
  simpa using this
/-- One value, at any stage. -/
theorem gF_step {Q : Act → List Value → Prop} {o : Oper} {l : List Oper} {v : Value} {cs : List (Option (Option Value))} {a : Act} {h : List Value} (hw : Region.wanted o (yielded ops a.tmps) = true)
    (hk : ∀ (h : List Value) (w : World) (K : Value → World → Prop), T h w → (∀ w', T h w' → K v w') → kUpon P K ((execOp a.eval o).run P w)) (hn : wpLexD P ops T Q l cs (a.put o.dst v) h) : wpLexD P ops T Q (o :: l) (some (some v) :: cs) a h := ⟨.inl ⟨hw, fun h' w K hT hK => hk h' w K hT hK⟩, hn⟩
theorem gF_not {Q : Act → List Value → Prop} {o : Oper} {l : List Oper} {cs : List (Option (Option Value))} {a : Act} {h : List Value} (hw : Region.wanted o (yielded ops a.tmps) = false) (hn : wpLexD P ops T Q l cs (a.put o.dst undef) h) : wpLexD P ops T Q (o :: l) (some (some undef) :: cs) a h := ⟨.inr ⟨hw, rfl⟩, hn⟩
/-- A value that hangs on those before, from this stage on. -/
theorem gG_step {Q : Act → List Value → Prop} {o : Oper} {l : List Oper} {v : Value} {cs : List (Option (Option Value))} {a : Act} {h : List Value} (hw : Region.wanted o (yielded ops a.tmps) = true)
    (hk : ∀ (h' : List Value) (w : World) (K : Value → World → Prop), T (h ++ h') w → (∀ w', T (h ++ h') w' → K v w') → kUpon P K ((execOp a.eval o).run P w)) (hn : wpLexD P ops T Q l cs (a.put o.dst v) h) : wpLexD P ops T Q (o :: l) (some none :: cs) a h := ⟨v, .inl ⟨hw, hk⟩, hn⟩
theorem gG_not {Q : Act → List Value → Prop} {o : Oper} {l : List Oper} {cs : List (Option (Option Value))} {a : Act} {h : List Value} (hw : Region.wanted o (yielded ops a.tmps) = false) (hn : wpLexD P ops T Q l cs (a.put o.dst undef) h) : wpLexD P ops T Q (o :: l) (some none :: cs) a h := ⟨undef, .inr ⟨hw, rfl⟩, hn⟩
/-- A value that hangs on the world, of the kind V. -/
theorem gD_step {Q : Act → List Value → Prop} {o : Oper} {l : List Oper} {cs : List (Option (Option Value))} {a : Act} {h : List Value} (V : Value → Prop) (hV : ∃ v, V v) (hw : Region.wanted o (yielded ops a.tmps) = true)
    (hk : ∀ (w : World) (K : Value → World → Prop), T h w → (∀ v w', V v → T (h ++ [v]) w' → K v w') → kUpon P K ((execOp a.eval o).run P w)) (hn : ∀ v, V v → wpLexD P ops T Q l cs (a.put o.dst v) (h ++ [v])) : wpLexD P ops T Q (o :: l) (none :: cs) a h := ⟨V, ⟨hw, hV, hk⟩, hn⟩
/-- One whose value is v, at this stage alone. -/
theorem gE_step {Q : Act → List Value → Prop} {o : Oper} {l : List Oper} {v : Value} {cs : List (Option (Option Value))} {a : Act} {h : List Value} (hw : Region.wanted o (yielded ops a.tmps) = true)
    (hk : ∀ (w : World) (K : Value → World → Prop), T h w → (∀ w', T (h ++ [v]) w' → K v w') → kUpon P K ((execOp a.eval o).run P w)) (hn : wpLexD P ops T Q l cs (a.put o.dst v) (h ++ [v])) : wpLexD P ops T Q (o :: l) (none :: cs) a h :=
  ⟨fun x => x = v, ⟨hw, ⟨v, rfl⟩, fun w K hT hK => hk w K hT (fun w' => hK v w' rfl)⟩, fun x hx => by subst hx; exact hn⟩
theorem g_nil {Q : Act → List Value → Prop} {cs : List (Option (Option Value))} {a : Act} {h : List Value} (hq : Q a h) : wpLexD P ops T Q [] cs a h := by simpa [wpLexD] using hq
end
end Go.Proofs.YtkinpbhbgeiflaaDoor.Rg
/- Loads and stores of whole rows inside regions that draw their order. -/
namespace Go.Proofs.YtkinpbhbgeiflaaDoor.Rx
set_option linter.unusedVariables false
set_option linter.unusedSimpArgs false
open Go.RowKit
open Go.Proofs.YtkinpbhbgeiflaaDoor.Rk
theorem kUpon_store_mid {P : Program} {a : Act} {o : Oper} {u : World} {K : Value → World → Prop} (ty : TypeId) (x y : Operand) (ho : o.op = .store ty x y) (b off : Nat) (cells : Array Value) (hx : a.eval x = .pointer (some ⟨b, off, none⟩)) (hy : a.eval y = .agg cells)
    (ht : u.there b off cells.size) (hi : (P.info? ty).map (·.size) = some cells.size) (h1 : cells.all (·.oneCell') = true) (h : K undef (u.setCells b off cells.toList)) : kUpon P K ((execOp a.eval o).run P u) := by
  have hr := run_storeAt_mid (P := P) u b off ty cells ht hi h1
  have e : (execOp a.eval o).run P u = .ok .skip (u.setCells b off cells.toList) := by
    simp [execOp, ho, hx, hy, hr, Result.andThen]
  rw [e]
  exact h
theorem kUpon_load_mid {P : Program} {a : Act} {o : Oper} {u : World} {K : Value → World → Prop} (ty : TypeId) (x : Operand) (ho : o.op = .load ty x) (b off : Nat) (v : Value) (hx : a.eval x = .pointer (some ⟨b, off, none⟩))
    (hr : Sem.run P (loadVar ty ⟨b, off, none⟩) u = .ok v u) (h : K v u) : kUpon P K ((execOp a.eval o).run P u) := by
  have e : (execOp a.eval o).run P u = .ok (.value v) u := by
    simp [execOp, ho, hx, Instr.loadAt, Instr.sureAddr, hr, Result.andThen]
  rw [e]
  exact h
theorem there_all {w : World} {B : Nat} {c : Array Value} {T : TypeId} (h : w.heap[B]? = some (.cells c T (0, 0))) : w.there B 0 c.size := fun j hj => by
  refine ⟨?_, ?_⟩
  · rw [Nat.zero_add, Wu.blk_cell h (x := c[j]) (by rw [Array.getElem?_eq_getElem hj])]; rfl
  · exact Wu.blk_free h
end Go.Proofs.YtkinpbhbgeiflaaDoor.Rx
/- sum.Cut and weak.Of at a slice of bytes; what block.Make lays. -/
namespace Go.Proofs.YtkinpbhbgeiflaaDoor.Ke
set_option linter.unusedVariables false
set_option linter.unusedSimpArgs false
set_option maxRecDepth 100000
open Go.ChangeShapes Go.WideShapes Go.ChangeAt Go.RowKit
open Go.Proofs.YtkinpbhbgeiflaaDoor.Wu Go.Proofs.YtkinpbhbgeiflaaDoor.Sm Go.Proofs.YtkinpbhbgeiflaaDoor.Sh Go.Proofs.YtkinpbhbgeiflaaDoor.Ba Go.Proofs.YtkinpbhbgeiflaaDoor.Bp Go.Proofs.YtkinpbhbgeiflaaDoor.Ka Go.Proofs.YtkinpbhbgeiflaaDoor.Kb Go.Proofs.YtkinpbhbgeiflaaDoor.Kc Go.Proofs.YtkinpbhbgeiflaaDoor.Kd Go.Proofs.YtkinpbhbgeiflaaDoor.Rk Go.Proofs.YtkinpbhbgeiflaaDoor.Rg
open Go.Proofs.YtkinpbhbgeiflaaDoor.Sn (Fst fst_keep)
open Go.Proofs.YtkinpbhbgeiflaaDoor.Sxa (Tbl tbl_keep)
open Go.Proofs.YtkinpbhbgeiflaaDoor.Su (cutL Cnt)
attribute [local go_sem] kUpon_value kUpon_skip kUpon_enter
theorem cut_b (n : Int) (k : Nat) (a : Option Addr) (m c : Nat) (L : List Nat) (w : World) (hk : Cnt n k) (hs : SrcB w a m L) (hc : m ≤ c) (hT : Tbl w) (hF : Fst w) (hbig : m ≤ 140737488355328) :
    Calls Tryd.prog 47 #[.int .i64 n, .slice a m c] w fun e w' => e = .returned (.agg (u8s (cutL k (sha L)))) ∧ Below w.heap.size w w' := Su.cut_c n k a m c L w hk hs hc hT hF hbig
open Go.Proofs.YtkinpbhbgeiflaaDoor.Wm in
theorem weak_b (a : Option Addr) (m c : Nat) (L : List Nat) (w : World) (hs : SrcB w a m L) (hbig : m < 2147483648) :
    Calls Tryd.prog 45 #[.slice a m c] w fun e w' => e = .returned (.agg #[.int .i64 (m : Int), .int .u16 (lo (ints L)), .int .u16 (hi (ints L))]) ∧ Below w.heap.size w w' := by
  obtain ⟨hl, h8, b, off, ha, hcell⟩ := hs
  rcases Nat.eq_zero_or_pos m with h0 | h0
  · subst h0
    obtain rfl : L = [] := List.length_eq_zero_iff.1 hl
    exact Wc.of_none a c w
  · rw [ha h0]
    have h1 := hcell 0 h0
    refine Wc.of_row b off c m (ints L) w (by rw [ints_length, hl]) (ints_byt h8) hbig (cell_lt h1) (fun i hi => ?_)
    rw [ints_getD]
    exact hcell i hi
open Go.Proofs.YtkinpbhbgeiflaaDoor.Wm in
theorem value_b (m : Nat) (L : List Nat) (w : World) :
    Calls Tryd.prog 46 #[.agg #[.int .i64 (m : Int), .int .u16 (lo (ints L)), .int .u16 (hi (ints L))]] w fun e w' => e = .returned (.int .u32 ((wkN L : Nat) : Int)) ∧ Below w.heap.size w w' := by
  have h := Wk.value_any (m : Int) (lo (ints L)) (hi (ints L)) w (lo_nonneg _) (lo_lt _) (hi_nonneg _) (hi_lt _)
  rw [wkN_is]
  exact h
/-- A block's sums, by its bytes. -/
def blkOf (k : Nat) (L : List Nat) : Blk := ⟨wkN L, cutL k (sha L)⟩
theorem all8_sub {X : List Nat} (h : All8 X) (k n : Nat) : All8 (X.take k ++ zeros n) := by
  intro x hx
  rcases List.mem_append.1 hx with hx | hx
  · exact h x (List.mem_of_mem_take hx)
  · rw [List.eq_of_mem_replicate hx]; omega
theorem sha_len (L : List Nat) : (sha L).length = 32 := by rfl
theorem blkOf_ok (k : Nat) (hk : k ≤ 32) (L : List Nat) : (blkOf k L).ok := by
  refine ⟨wkN_lt L, Su.cutL_length k _ hk (sha_len L), ?_⟩
  exact all8_sub (all8_sha L) k (32 - k)
/-- All blocks of a file. -/
def mkB (D : List Nat) (sz k n : Nat) : List Blk := (List.range n).map fun i => blkOf k (piece D sz i)
theorem mkB_length (D : List Nat) (sz k n : Nat) : (mkB D sz k n).length = n := by simp [mkB]
theorem mkB_snoc (D : List Nat) (sz k n : Nat) : mkB D sz k (n + 1) = mkB D sz k n ++ [blkOf k (piece D sz n)] := by simp [mkB, List.range_succ]
theorem mkB_oks (D : List Nat) (sz k n : Nat) (hk : k ≤ 32) : Oks (mkB D sz k n) := by
  intro b hb
  obtain ⟨i, _, rfl⟩ := List.mem_map.1 hb
  exact blkOf_ok k hk _
/-- A list of blocks under way: the signature in S holds the slice v, what the list has is vo's; R holds the call's result. -/
structure MB (q : IntKind) (e T : TypeId) (w0 : World) (R S N : Nat) (rc : Obj) (sz cut len : Int) (v vo : Value) (bs : List Blk) (u : World) : Prop where
  below : Below w0.heap.size w0 u
  hS : w0.heap.size ≤ S
  SN : S < N
  RN : R < N
  RS : R ≠ S
  Nu : N ≤ u.heap.size
  sig : Sig4 T u S sz cut len v
  res : u.heap[R]? = some rc
  own : OwnBks q e u N vo bs
section
variable {q : IntKind} {e T : TypeId} {w0 : World} {R S N : Nat} {rc : Obj} {sz cut len : Int} {v vo v0 : Value} {bs : List Blk} {x : Blk}
theorem MB.up {u u' : World} (H : MB q e T w0 R S N rc sz cut len v vo bs u) (hb : Below u.heap.size u u') : MB q e T w0 R S N rc sz cut len v vo bs u' :=
  ⟨keepB hb (Nat.le_refl _) H.below, H.hS, H.SN, H.RN, H.RS, Nat.le_trans H.Nu hb.size, H.sig.below hb, below_blk hb (heap_lt H.res) H.res, H.own.below hb⟩
theorem MB.store {u : World} (H : MB q e T w0 R S N rc sz cut len v vo bs u) : MB q e T w0 R S N rc sz cut len vo vo bs (u.setCell ⟨S, 3, none⟩ vo) := by
  have hg := grown_setCell (World.grownBy.refl u (some S)) 3 vo
  exact ⟨H.below.setCell H.hS _, H.hS, H.SN, H.RN, H.RS, by simpa [World.setCell] using H.Nu, H.sig.setList vo, keepG hg H.RS H.res, H.own.kept hg (fun e => by have := (H.own.own _ e).1; have := H.SN; omega)⟩
theorem MB.append {u u' : World} {v' : Value} (H : MB q e T w0 R S N rc sz cut len v vo bs u) (hg : u.grownBy u' vo.ownBlock) (ho : OwnBks q e u' N v' (bs ++ [x])) : MB q e T w0 R S N rc sz cut len v v' (bs ++ [x]) u' := by
  have hlt : ∀ k, vo.ownBlock = some k → N ≤ k := fun k hk => (H.own.own k hk).1
  have h1 := H.hS
  have h2 := H.SN
  have h3 := H.RN
  refine ⟨H.below.grown hg H.below.size (fun k hk => by have := hlt k hk; omega), H.hS, H.SN, H.RN, H.RS, Nat.le_trans H.Nu hg.size, H.sig.kept hg (fun e => by have := hlt S e.symm; omega), ?_, ho⟩
  exact (hg.block R (heap_lt H.res) (fun e => by have := hlt R e.symm; omega)).trans H.res
/-- The stages of the round's region. -/
def MT (q : IntKind) (e T : TypeId) (w0 : World) (R S N : Nat) (rc : Obj) (sz cut len : Int) (v0 : Value) (bs : List Blk) (x : Blk) : List Value → World → Prop
  | [], u => MB q e T w0 R S N rc sz cut len v0 v0 bs u
  | [b], u => MB q e T w0 R S N rc sz cut len v0 v0 bs u ∧ ∃ B, b = .slice (some ⟨B, 0, none⟩) 1 1 ∧ ∃ T f, u.heap[B]? = some (.cells (blkC q x).toArray T f)
  | [_, v], u => MB q e T w0 R S N rc sz cut len v0 v (bs ++ [x]) u
  | [_, v, _], u => MB q e T w0 R S N rc sz cut len v v (bs ++ [x]) u
  | _, _ => False
theorem MT.base {h : List Value} {u : World} (H : MT q e T w0 R S N rc sz cut len v0 bs x h u) : Below w0.heap.size w0 u := by
  match h, H with
  | [], H => exact H.below
  | [_], H => exact H.1.below
  | [_, _], H => exact MB.below H
  | [_, _, _], H => exact MB.below H
theorem MT.up {h : List Value} {u u' : World} (H : MT q e T w0 R S N rc sz cut len v0 bs x h u) (hb : Below u.heap.size u u') : MT q e T w0 R S N rc sz cut len v0 bs x h u' := by
  match h, H with
  | [], H => exact MB.up H hb
  | [_], ⟨H, B, h6, T', f, h7⟩ => exact ⟨H.up hb, B, h6, T', f, below_blk hb (heap_lt h7) h7⟩
  | [_, _], H => exact MB.up H hb
  | [_, _, _], H => exact MB.up H hb
/-- The signature's cells at the first stages. -/
theorem MT.sig {h : List Value} {u : World} (H : MT q e T w0 R S N rc sz cut len v0 bs x h u) (hl : h.length ≤ 1) : Sig4 T u S sz cut len v0 := by
  match h, H with
  | [], H => exact MB.sig H
  | [_], H => exact H.1.sig
  | [_, _], H => simp at hl
  | [_, _, _], H => simp at hl
end
end Go.Proofs.YtkinpbhbgeiflaaDoor.Ke
/- Blocks of cells loaded and stored whole, whatever they hold. For any program. -/
namespace Go.Proofs.YtkinpbhbgeiflaaDoor.Rw
set_option linter.unusedVariables false
set_option linter.unusedSimpArgs false
set_option maxRecDepth 100000
open Go.RowKit
open Go.Proofs.YtkinpbhbgeiflaaDoor.Wu Go.Proofs.YtkinpbhbgeiflaaDoor.Ba Go.Proofs.YtkinpbhbgeiflaaDoor.Rk Go.Proofs.YtkinpbhbgeiflaaDoor.Rx
theorem range_all {w : World} {b : Nat} {X : Array Value} {T : TypeId} {f : Nat × Nat} (h : w.heap[b]? = some (.cells X T f)) : w.rangeAt b 0 X.toList := fun j v hv => by
  rw [Nat.zero_add]
  exact blk_cell h (by simpa using hv)
theorem set_all {w : World} {b : Nat} {X Y : Array Value} {T : TypeId} {f : Nat × Nat} (h : w.heap[b]? = some (.cells Y T f)) (hl : X.size = Y.size) : (w.setCells b 0 X.toList).heap[b]? = some (.cells X T f) := by
  have e := blk_setCells X.toList 0 w Y.toList (by simp; omega) (by rw [Array.toArray_toList]; exact h)
  rw [e, List.take_zero, List.nil_append, List.drop_eq_nil_of_le (by simp; omega), List.append_nil, Array.toArray_toList]
theorem wpList_store_all {P : Program} {ops : Array Oper} {rest : List Oper} {op : Oper} {a : Act} {w : World} {Q : Exit → Act → World → Prop} (hgd : op.guard = none) (ty : TypeId) (x y : Operand) (ho : op.op = .store ty x y)
    (b : Nat) (X Y : Array Value) (T : TypeId) (hx : a.eval x = .pointer (some ⟨b, 0, none⟩)) (hy : a.eval y = .agg X) (hg : w.heap[b]? = some (.cells Y T (0, 0))) (hl : X.size = Y.size)
    (hi : (P.info? ty).map (·.size) = some X.size) (h1 : X.all (·.oneCell') = true)
    (h : ∀ w', Hid (w'.heap[b]? = some (.cells X T (0, 0))) → Hid (w.grownBy w' (some b)) → Hid (wpList P ops Q rest (a.put op.dst undef) w')) : wpList P ops Q (op :: rest) a w :=
  wpList_store_mid hgd ty x y ho b 0 X hx hy (by rw [hl]; exact there_all hg) hi h1 (h _ (set_all hg hl) (grown_setCells _ _ _))
theorem wpList_load_all {P : Program} {ops : Array Oper} {rest : List Oper} {op : Oper} {a : Act} {w : World} {Q : Exit → Act → World → Prop} (hgd : op.guard = none) (ty : TypeId) (x : Operand) (ho : op.op = .load ty x)
    (b : Nat) (X : Array Value) (T : TypeId) (f : Nat × Nat) (hx : a.eval x = .pointer (some ⟨b, 0, none⟩)) (hg : w.heap[b]? = some (.cells X T f)) (d : TypeDesc)
    (hu : P.underlying ty = some d) (hd : d.isRow = true) (hi : (P.info? ty).map (·.size) = some X.size)
    (h : wpList P ops Q rest (a.put op.dst (.agg X)) w) : wpList P ops Q (op :: rest) a w := by
  refine wpList_load_mid hgd ty x ho b 0 hx X.toList d (range_all hg) hu hd (by rw [Array.length_toList]; exact hi) ?_
  rw [Array.toArray_toList]
  exact h
/-- A part of a block. -/
theorem wpList_load_part {P : Program} {ops : Array Oper} {rest : List Oper} {op : Oper} {a : Act} {w : World} {Q : Exit → Act → World → Prop} (hgd : op.guard = none) (ty : TypeId) (x : Operand) (ho : op.op = .load ty x)
    (b o : Nat) (cs : List Value) (hx : a.eval x = .pointer (some ⟨b, o, none⟩)) (hg : w.rangeAt b o cs) (d : TypeDesc)
    (hu : P.underlying ty = some d) (hd : d.isRow = true) (hi : (P.info? ty).map (·.size) = some cs.length)
    (h : wpList P ops Q rest (a.put op.dst (.agg cs.toArray)) w) : wpList P ops Q (op :: rest) a w :=
  wpList_load_mid hgd ty x ho b o hx cs d hg hu hd hi h
theorem wpList_wanted {P : Program} {ops : Array Oper} {rest : List Oper} {o : Oper} {a : Act} {w : World} {Q : Exit → Act → World → Prop} (hw : Region.wanted o (yielded ops a.tmps) = true)
    (h : ∀ K : Act → World → Prop, (∀ a w, wpList P ops Q rest a w → K a w) → o.wp P a w K Q) : wpList P ops Q (o :: rest) a w :=
  wpList_step fun K hK => by simp only [hw, if_true]; exact h K hK
/-- The same where it is guarded, and wanted. -/
theorem wpList_load_partw {P : Program} {ops : Array Oper} {rest : List Oper} {op : Oper} {a : Act} {w : World} {Q : Exit → Act → World → Prop} (hw : Region.wanted op (yielded ops a.tmps) = true) (ty : TypeId) (x : Operand) (ho : op.op = .load ty x)
    (b o : Nat) (cs : List Value) (hx : a.eval x = .pointer (some ⟨b, o, none⟩)) (hg : w.rangeAt b o cs) (d : TypeDesc)
    (hu : P.underlying ty = some d) (hd : d.isRow = true) (hi : (P.info? ty).map (·.size) = some cs.length)
    (h : wpList P ops Q rest (a.put op.dst (.agg cs.toArray)) w) : wpList P ops Q (op :: rest) a w :=
  wpList_wanted hw fun K hK => wp_load_mid ty x ho b o hx cs d hg hu hd hi (hK _ _ h)
theorem wpList_load_allw {P : Program} {ops : Array Oper} {rest : List Oper} {op : Oper} {a : Act} {w : World} {Q : Exit → Act → World → Prop} (hw : Region.wanted op (yielded ops a.tmps) = true) (ty : TypeId) (x : Operand) (ho : op.op = .load ty x)
    (b : Nat) (X : Array Value) (T : TypeId) (f : Nat × Nat) (hx : a.eval x = .pointer (some ⟨b, 0, none⟩)) (hg : w.heap[b]? = some (.cells X T f)) (d : TypeDesc)
    (hu : P.underlying ty = some d) (hd : d.isRow = true) (hi : (P.info? ty).map (·.size) = some X.size)
    (h : wpList P ops Q rest (a.put op.dst (.agg X)) w) : wpList P ops Q (op :: rest) a w := by
  refine wpList_load_partw hw ty x ho b 0 X.toList hx (range_all hg) d hu hd (by rw [Array.length_toList]; exact hi) ?_
  rw [Array.toArray_toList]
  exact h
theorem load_all {P : Program} {w : World} {b : Nat} {X : Array Value} {T : TypeId} {f : Nat × Nat} (ty : TypeId) (hg : w.heap[b]? = some (.cells X T f)) (d : TypeDesc)
    (hu : P.underlying ty = some d) (hd : d.isRow = true) (hi : (P.info? ty).map (·.size) = some X.size) : Sem.run P (loadVar ty ⟨b, 0, none⟩) w = .ok (.agg X) w := by
  have h4 := run_loadVar_mid (P := P) w b 0 ty X.toList d (range_all hg) hu hd (by rw [Array.length_toList]; exact hi)
  rw [Array.toArray_toList] at h4
  exact h4
theorem kUpon_load_all {P : Program} {a : Act} {o : Oper} {u : World} {K : Value → World → Prop} (ty : TypeId) (x : Operand) (ho : o.op = .load ty x) (b : Nat) (X : Array Value) (T : TypeId) (f : Nat × Nat) (hx : a.eval x = .pointer (some ⟨b, 0, none⟩)) (hg : u.heap[b]? = some (.cells X T f)) (d : TypeDesc)
    (hu : P.underlying ty = some d) (hd : d.isRow = true) (hi : (P.info? ty).map (·.size) = some X.size) (h : K (.agg X) u) : kUpon P K ((execOp a.eval o).run P u) :=
  kUpon_load_mid ty x ho b 0 _ hx (load_all ty hg d hu hd hi) h
theorem kUpon_store_all {P : Program} {a : Act} {o : Oper} {u : World} {K : Value → World → Prop} (ty : TypeId) (x y : Operand) (ho : o.op = .store ty x y) (b : Nat) (X Y : Array Value) (T : TypeId) (hx : a.eval x = .pointer (some ⟨b, 0, none⟩)) (hy : a.eval y = .agg X)
    (hg : u.heap[b]? = some (.cells Y T (0, 0))) (hl : X.size = Y.size) (hi : (P.info? ty).map (·.size) = some X.size) (h1 : X.all (·.oneCell') = true)
    (h : ∀ w', w'.heap[b]? = some (.cells X T (0, 0)) → u.grownBy w' (some b) → K undef w') : kUpon P K ((execOp a.eval o).run P u) :=
  kUpon_store_mid ty x y ho b 0 X hx hy (by rw [hl]; exact there_all hg) hi h1 (h _ (set_all hg hl) (grown_setCells _ _ _))
/-- A builtin append, once its run is known. -/
theorem kUpon_append {P : Program} {a : Act} {o : Oper} {u u' : World} {K : Value → World → Prop} {v' : Value} (sT : TypeId) (s x : Operand) (ho : o.op = .call { callee := .builtin .append, args := #[s, x], argTypes := #[sT, sT] })
    (hrun : (Builtin.append_ #[sT, sT] o.type #[a.eval s, a.eval x]).run P u = .ok v' u') (h : K v' u') : kUpon P K ((execOp a.eval o).run P u) := by
  have e : (execOp a.eval o).run P u = .ok (.value v') u' := by
    simp [execOp, ho, resolve, invoke, builtin, hrun, Result.andThen]
  rw [e]
  exact h
theorem wpList_append_at {P : Program} {w w' : World} {ops : Array Oper} {rest : List Oper} {o : Oper} {a : Act} {Q : Exit → Act → World → Prop} {v' : Value} (hgd : o.guard = none) (sT : TypeId) (s x : Operand)
    (ho : o.op = .call { callee := .builtin .append, args := #[s, x], argTypes := #[sT, sT] })
    (hrun : (Builtin.append_ #[sT, sT] o.type #[a.eval s, a.eval x]).run P w = .ok v' w') (h : wpList P ops Q rest (a.put o.dst v') w') : wpList P ops Q (o :: rest) a w := by
  refine wpList_plain hgd fun K hK => ?_
  unfold Oper.wp
  simp [execOp, ho, resolve, invoke, builtin, hrun, Result.andThen]
  exact hK _ _ h
end Go.Proofs.YtkinpbhbgeiflaaDoor.Rw
/- Structs and slices of one element built of parts that are themselves rows. For any program. -/
namespace Go.Proofs.YtkinpbhbgeiflaaDoor.Rb1
set_option linter.unusedVariables false
set_option linter.unusedSimpArgs false
open Go.Proofs.YtkinpbhbgeiflaaDoor.Rk
/-- A row laid into a row. -/
def spl (X : List Value) (o : Nat) (V : List Value) : List Value := X.take o ++ V ++ X.drop (o + V.length)
theorem spl_length (X V : List Value) (o : Nat) (h : o + V.length ≤ X.length) : (spl X o V).length = X.length := by
  simp [spl]; omega
theorem fold_put : ∀ (V : List Value) (k o : Nat) (X : List Value), o + k + V.length ≤ X.length →
    (V.zipIdx k).foldl (fun (cs : Array Value) (x : Value × Nat) => cs.setIfInBounds (o + x.2) x.1) X.toArray = (spl X (o + k) V).toArray
  | [], k, o, X, _ => by simp [spl]
  | v :: V, k, o, X, h => by
    simp only [List.length_cons] at h
    rw [List.zipIdx_cons, List.foldl_cons, List.setIfInBounds_toArray]
    have ih := fold_put V (k + 1) o (X.set (o + k) v) (by rw [List.length_set]; omega)
    rw [ih]
    congr 1
    unfold spl
    rw [List.set_eq_take_append_cons_drop, if_pos (by omega)]
    have hA : (X.take (o + k)).length = o + k := by rw [List.length_take]; omega
    have e1 : (X.take (o + k) ++ v :: X.drop (o + k + 1)).take (o + (k + 1)) = X.take (o + k) ++ [v] := by
      rw [List.take_append, hA, List.take_of_length_le (by omega), show o + (k + 1) - (o + k) = 1 by omega]; rfl
    have e2 : (X.take (o + k) ++ v :: X.drop (o + k + 1)).drop (o + (k + 1) + V.length) = X.drop (o + k + (V.length + 1)) := by
      rw [List.drop_append, hA, List.drop_eq_nil_of_le (by omega), show o + (k + 1) + V.length - (o + k) = V.length + 1 by omega, List.drop_succ_cons, List.drop_drop, List.nil_append]
      congr 1; omega
    rw [e1, e2]
    simp
theorem fill_nil (place : Nat → Option (Nat × Nat)) (X : List Value) : Instr.fill place X.toArray [] = some X.toArray := rfl
theorem fill_step (place : Nat → Option (Nat × Nat)) (X V : List Value) (i off size : Nat) (v : Value) (rest : List (Nat × Value)) (hp : place i = some (off, size)) (hv : v.cells = V.toArray) (hs : V.length = size) (hl : off + size ≤ X.length) :
    Instr.fill place X.toArray ((i, v) :: rest) = Instr.fill place (spl X off V).toArray rest := by
  subst hs
  rw [Instr.fill, hp]
  simp only [hv]
  rw [if_neg (by simp; omega)]
  congr 1
  have := fold_put V 0 off X (by omega)
  rw [Nat.add_zero] at this
  rw [← this]
  rw [← Array.foldl_toList, Array.toList_zipIdx]
section
variable {P : Program}
/-- What a struct's parts come to. -/
theorem built_struct (t : TypeId) (parts : List (Nat × Value)) (z : Value) (fs : Array Field) (pl : List (Nat × Nat)) (X : List Value) (hz : (P.info? t).bind (·.zero) = some z) (hu : P.underlying t = some (.struct fs)) (hp : fs.toList.mapM (fun f => (P.info? f.type).map fun i => (f.offset, i.size)) = some pl)
    (hX : z.cells = X.toArray) (cs : Array Value) (hf : Instr.fill (pl.toArray[·]?) X.toArray parts = some cs) : P.built t parts = some cs := by
  obtain ⟨it, hi, hz'⟩ := Option.bind_eq_some_iff.1 hz
  simp only [Program.built, hi, hu, hz', hp, hX]
  exact hf
theorem run_built (w : World) (t : TypeId) (parts : Array (Nat × Value)) (cells : Array Value) (h : P.built t parts.toList = some cells) : (Instr.build t parts).run P w = .ok (.agg cells) w := run_build w t parts cells h
/-- A slice of one element. -/
theorem run_slice_one (w : World) (t e : TypeId) (v : Value) (V : List Value) (ie : TypeInfo) (z : Value) (n : Nat) (hu : P.underlying t = some (.slice e)) (hie : P.info? e = some ie) (hz : ie.zero = some z) (hn : ie.size = n) (hpos : 0 < n) (hmax : n ≤ 1000) (hv : v.cells = V.toArray) (hl : V.length = n) :
    (Instr.buildSlice t 1 #[(0, v)]).run P w = .ok (.slice (some ⟨w.heap.size, 0, none⟩) 1 1) (w.alloc (.cells V.toArray e)) := by
  subst hn
  refine run_buildSlice w t e 1 #[(0, v)] V.toArray ie z hu hie hz (by omega) (by omega) ?_
  have e1 : ((Array.range (1 * ie.size)).map (z.cells[· % z.cells.size]!)) = (((Array.range (1 * ie.size)).map (z.cells[· % z.cells.size]!)).toList).toArray := (Array.toArray_toList).symm
  rw [e1]
  rw [fill_step _ _ V 0 (0 * ie.size) ie.size v [] rfl hv hl (by simp)]
  rw [fill_nil]
  congr 1
  simp [spl, hl]
theorem parts_list {a : Act} {parts : Array (Nat × Operand)} {vals : List (Nat × Value)} (hv : (parts.toList.map fun x => (x.1, a.eval x.2)) = vals) : (parts.map fun (i, x) => (i, a.eval x)) = vals.toArray := by
  apply Array.toList_inj.1
  rw [Array.toList_map, ← hv]
theorem kUpon_build_to {a : Act} {o : Oper} {u : World} {K : Value → World → Prop} (t : TypeId) (parts : Array (Nat × Operand)) (ho : o.op = .build t parts) (vals : List (Nat × Value)) (hv : (parts.toList.map fun x => (x.1, a.eval x.2)) = vals) (cs : Array Value) (hr : P.built t vals = some cs) (h : K (.agg cs) u) : kUpon P K ((execOp a.eval o).run P u) := by
  have hv := parts_list hv
  have e : (execOp a.eval o).run P u = .ok (.value (.agg cs)) u := by
    unfold execOp
    simp only [ho]
    simp only [Sem.run_bind, Sem.run_pure, hv]
    rw [run_build u t _ cs (by simpa using hr)]
    rfl
  rw [e]
  exact h
theorem kUpon_slice_to {a : Act} {o : Oper} {u : World} {K : Value → World → Prop} (t : TypeId) (len : Nat) (parts : Array (Nat × Operand)) (ho : o.op = .buildSlice t len parts) (vals : List (Nat × Value)) (hv : (parts.toList.map fun x => (x.1, a.eval x.2)) = vals) (v : Value) (w' : World) (hr : Sem.run P (Instr.buildSlice t len vals.toArray) u = .ok v w') (h : K v w') : kUpon P K ((execOp a.eval o).run P u) := by
  have hv := parts_list hv
  have e : (execOp a.eval o).run P u = .ok (.value v) w' := by
    unfold execOp
    simp only [ho]
    simp only [Sem.run_bind, Sem.run_pure, hv]
    rw [hr]
    rfl
  rw [e]
  exact h
theorem wpList_slice_to {ops : Array Oper} {rest : List Oper} {o : Oper} {a : Act} {w : World} {Q : Exit → Act → World → Prop} (hg : o.guard = none) (t : TypeId) (len : Nat) (parts : Array (Nat × Operand)) (ho : o.op = .buildSlice t len parts)
    (vals : List (Nat × Value)) (hv : (parts.toList.map fun x => (x.1, a.eval x.2)) = vals) (v : Value) (w' : World) (hr : Sem.run P (Instr.buildSlice t len vals.toArray) w = .ok v w')
    (h : wpList P ops Q rest (a.put o.dst v) w') : wpList P ops Q (o :: rest) a w := by
  have hv := parts_list hv
  refine wpList_plain hg fun K hK => ?_
  unfold Oper.wp
  have e : (execOp a.eval o).run P w = .ok (.value v) w' := by
    unfold execOp
    simp only [ho]
    simp only [Sem.run_bind, Sem.run_pure, hv]
    rw [hr]
    rfl
  rw [e]
  exact hK _ _ h
theorem wpList_build_at {ops : Array Oper} {rest : List Oper} {o : Oper} {a : Act} {w : World} {Q : Exit → Act → World → Prop} (hg : o.guard = none) (t : TypeId) (parts : Array (Nat × Operand)) (ho : o.op = .build t parts)
    (vals : List (Nat × Value)) (hv : (parts.toList.map fun x => (x.1, a.eval x.2)) = vals) (cs : Array Value) (hr : P.built t vals = some cs)
    (h : wpList P ops Q rest (a.put o.dst (.agg cs)) w) : wpList P ops Q (o :: rest) a w := by
  have hv := parts_list hv
  refine wpList_plain hg fun K hK => ?_
  unfold Oper.wp
  have e : (execOp a.eval o).run P w = .ok (.value (.agg cs)) w := by
    unfold execOp
    simp only [ho]
    simp only [Sem.run_bind, Sem.run_pure, hv]
    rw [run_build w t _ cs (by simpa using hr)]
    rfl
  rw [e]
  exact hK _ _ h
end
end Go.Proofs.YtkinpbhbgeiflaaDoor.Rb1
