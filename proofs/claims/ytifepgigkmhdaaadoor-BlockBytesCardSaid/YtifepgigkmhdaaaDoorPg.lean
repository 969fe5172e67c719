/- Several texts, one behind the other. -/
import Derived.Test.YtifepgigkmhdaaaDoorPf
import Derived.Deep.RegionHeld3
import Derived.Test.YtifepgigkmhdaaaDoorPc
import Derived.BigQuiet
import Derived.Deep.QuietTactic
import Derived.Maps.AppendAt
import Derived.Test.YtifepgigkmhdaaaDoorPb
import Derived.Great.BuildSlice
import Derived.StillTailTactics
/- Blocks in plain numbers: how many there are, what is right of their sums; blocks as cells. -/
namespace Go.Proofs.YtifepgigkmhdaaaDoor.Ka
set_option linter.unusedVariables false
set_option linter.unusedSimpArgs false
set_option maxRecDepth 100000
open Go.RowKit
open Go.Proofs.YtifepgigkmhdaaaDoor.Wu Go.Proofs.YtifepgigkmhdaaaDoor.Sm Go.Proofs.YtifepgigkmhdaaaDoor.Sh Go.Proofs.YtifepgigkmhdaaaDoor.Ba Go.Proofs.YtifepgigkmhdaaaDoor.Bp
/-- How many blocks a file has. -/
def cntZ (l s : Int) : Int := if s < 1 ∨ l < 0 then 0 else if 0 < l % s then l / s + 1 else l / s
theorem cntZ_nonneg (l s : Int) : 0 ≤ cntZ l s := by
  unfold cntZ
  split
  · omega
  · rename_i h
    have : 0 ≤ l / s := Int.ediv_nonneg (by omega) (by omega)
    split <;> omega
/-- Why a file's blocks can't be such; 0: they can. -/
def fitsE (sz cut len : Int) : Int := if sz < 1 ∨ 4096 < sz ∨ cut < 0 ∨ 32 < cut ∨ len < 0 then 1 else if 4096 < cntZ len sz then 2 else 0
theorem fitsE_zero {sz cut len : Int} (h : fitsE sz cut len = 0) : 1 ≤ sz ∧ sz ≤ 4096 ∧ 0 ≤ cut ∧ cut ≤ 32 ∧ 0 ≤ len ∧ cntZ len sz ≤ 4096 ∧ len ≤ 16777216 := by
  unfold fitsE at h
  split at h
  · omega
  · split at h
    · omega
    · rename_i h1 h2
      refine ⟨by omega, by omega, by omega, by omega, by omega, by omega, ?_⟩
      have h3 : len < 16777217 ∨ 16777217 ≤ len := by omega
      rcases h3 with h3 | h3
      · omega
      · exfalso
        apply h2
        unfold cntZ
        rw [if_neg (by omega)]
        have e1 : 4096 * sz ≤ len := by omega
        have h4 : 4096 ≤ len / sz := by
          rw [Int.le_ediv_iff_mul_le (by omega)]
          omega
        have h5 : len = sz * (len / sz) + len % sz := (Int.mul_ediv_add_emod len sz).symm
        have h6 : 0 ≤ len % sz := Int.emod_nonneg _ (by omega)
        split
        · omega
        · have h7 : len % sz = 0 := by omega
          rcases Int.lt_or_le 4096 (len / sz) with h8 | h8
          · exact h8
          · have h9 : len / sz = 4096 := by omega
            rw [h9, h7] at h5
            omega
/-- A block's sums. -/
structure Blk where
  w : Nat
  s : List Nat
deriving DecidableEq
def Blk.ok (b : Blk) : Prop := b.w < 4294967296 ∧ b.s.length = 32 ∧ All8 b.s
/-- Its cells; the weak one's kind is q. -/
def blkC (q : IntKind) (b : Blk) : List Value := .int q (b.w : Int) :: b8 b.s
theorem blkC_length {q : IntKind} {b : Blk} (h : b.ok) : (blkC q b).length = 33 := by simp [blkC, b8_length, h.2.1]
theorem blkC_one (q : IntKind) (b : Blk) : ∀ v ∈ blkC q b, v.oneCell' = true := by
  intro v hv
  rcases List.mem_cons.1 hv with rfl | hv
  · rfl
  · exact b8_one _ v hv
def rowC (q : IntKind) (bs : List Blk) : List Value := bs.flatMap (blkC q)
def Oks (bs : List Blk) : Prop := ∀ b ∈ bs, b.ok
theorem rowC_length {q : IntKind} : ∀ {bs : List Blk}, Oks bs → (rowC q bs).length = bs.length * 33
  | [], _ => rfl
  | b :: bs, h => by
    have h1 := rowC_length (q := q) (bs := bs) (fun x hx => h x (List.mem_cons_of_mem _ hx))
    have h2 := blkC_length (q := q) (h b List.mem_cons_self)
    unfold rowC at h1 ⊢
    rw [List.flatMap_cons, List.length_append, h1, h2, List.length_cons]
    omega
theorem rowC_one (q : IntKind) (bs : List Blk) : ∀ v ∈ rowC q bs, v.oneCell' = true := by
  intro v hv
  obtain ⟨b, _, hb⟩ := List.mem_flatMap.1 hv
  exact blkC_one q b v hb
theorem rowC_append (q : IntKind) (bs cs : List Blk) : rowC q (bs ++ cs) = rowC q bs ++ rowC q cs := by simp [rowC]
theorem rowC_at {q : IntKind} : ∀ {bs : List Blk}, Oks bs → ∀ {i : Nat} {b : Blk}, bs[i]? = some b → ∀ j, j < 33 → (rowC q bs)[i * 33 + j]? = (blkC q b)[j]?
  | [], _, i, b, h, _, _ => by simp at h
  | c :: bs, hk, 0, b, h, j, hj => by
    simp at h
    subst h
    have := blkC_length (q := q) (hk c List.mem_cons_self)
    rw [rowC, List.flatMap_cons, Nat.zero_mul, Nat.zero_add, List.getElem?_append_left (by omega)]
  | c :: bs, hk, i + 1, b, h, j, hj => by
    have h1 := blkC_length (q := q) (hk c List.mem_cons_self)
    have ih := rowC_at (q := q) (bs := bs) (fun x hx => hk x (List.mem_cons_of_mem _ hx)) (i := i) (b := b) (by simpa using h) j hj
    rw [rowC, List.flatMap_cons, List.getElem?_append_right (by omega), h1, show (i + 1) * 33 + j - 33 = i * 33 + j by omega]
    exact ih
/-- A slice that reads as these blocks. -/
def IsBks (q : IntKind) (w : World) (v : Value) (bs : List Blk) : Prop :=
  Oks bs ∧ ∃ a cap, v = .slice a bs.length cap ∧ bs.length ≤ cap ∧ cap ≤ 9223372036854775807 ∧ ∃ g off, (0 < bs.length → a = some ⟨g, off, none⟩) ∧ w.rangeAt g off (rowC q bs)
theorem IsBks.nil (q : IntKind) (w : World) : IsBks q w (.slice none 0 0) [] := ⟨(by intro b hb; cases hb), none, 0, rfl, Nat.le_refl _, by omega, 0, 0, fun h => absurd h (by simp), fun j v hv => by simp [rowC] at hv⟩
theorem range_below {w w' : World} {g off : Nat} {cs : List Value} (h : w.rangeAt g off cs) (hb : Below w.heap.size w w') : w'.rangeAt g off cs := fun j v hv => keepC hb (Nat.le_refl _) (h j v hv)
theorem range_same {w w' : World} {g off : Nat} {cs : List Value} (h : w.rangeAt g off cs) (e : w'.heap[g]? = w.heap[g]?) : w'.rangeAt g off cs := fun j v hv => by
  rw [World.cell?_of_block (a := ⟨g, off + j, none⟩) e]; exact h j v hv
theorem IsBks.below {q : IntKind} {w w' : World} {v : Value} {bs : List Blk} (h : IsBks q w v bs) (hb : Below w.heap.size w w') : IsBks q w' v bs := by
  obtain ⟨h0, a, cap, h1, h2, h3, g, off, h4, h5⟩ := h
  exact ⟨h0, a, cap, h1, h2, h3, g, off, h4, range_below h5 hb⟩
/-- The block that stands at i. -/
theorem IsBks.at {q : IntKind} {w : World} {v : Value} {bs : List Blk} (h : IsBks q w v bs) : ∃ a cap g off, v = .slice a bs.length cap ∧ bs.length ≤ cap ∧ cap ≤ 9223372036854775807 ∧ (0 < bs.length → a = some ⟨g, off, none⟩) ∧
    ∀ i b, bs[i]? = some b → b.ok ∧ w.rangeAt g (off + i * 33) (blkC q b) := by
  obtain ⟨h0, a, cap, h1, h2, h3, g, off, h4, h5⟩ := h
  refine ⟨a, cap, g, off, h1, h2, h3, h4, fun i b hb => ⟨h0 b (List.mem_of_getElem? hb), fun j v hv => ?_⟩⟩
  have hok := h0 b (List.mem_of_getElem? hb)
  have hj : j < 33 := by rw [← blkC_length (q := q) hok]; exact (List.getElem?_eq_some_iff.1 hv).1
  have := h5 (i * 33 + j) v (by rw [rowC_at h0 hb j hj]; exact hv)
  rwa [Nat.add_assoc]
/-- A slice of blocks of the call's own. -/
def OwnBks (q : IntKind) (e : TypeId) (w : World) (N : Nat) (v : Value) (bs : List Blk) : Prop := Oks bs ∧ w.ownsRow N e 33 v bs.length (rowC q bs)
theorem OwnBks.nil (q : IntKind) (e : TypeId) (w : World) (N : Nat) : OwnBks q e w N (.slice none 0 0) [] := ⟨(by intro b hb; cases hb), World.ownsRow_nil _ _ _ _⟩
theorem OwnBks.is {q : IntKind} {e : TypeId} {w : World} {N : Nat} {v : Value} {bs : List Blk} (h : OwnBks q e w N v bs) : IsBks q w v bs := by
  obtain ⟨h0, h1, h2⟩ := h
  refine ⟨h0, ?_⟩
  rcases h2 with ⟨rfl, hn⟩ | ⟨g, cap, cur, rfl, hb, hg, hl, hm, hs, ht⟩
  · obtain rfl : bs = [] := List.length_eq_zero_iff.1 hn
    exact ⟨none, 0, rfl, Nat.le_refl _, by omega, 0, 0, fun h => absurd h (by simp), fun j v hv => by simp [rowC] at hv⟩
  · unfold maxLen at hm
    refine ⟨some ⟨g, 0, none⟩, cap, rfl, hl, by omega, g, 0, fun _ => rfl, fun j v hv => ?_⟩
    rw [Nat.zero_add]
    refine blk_cell hg ?_
    rw [← ht] at hv
    rw [List.getElem?_take] at hv
    split at hv
    · simpa using hv
    · cases hv
theorem OwnBks.own {q : IntKind} {e : TypeId} {w : World} {N : Nat} {v : Value} {bs : List Blk} (h : OwnBks q e w N v bs) : ∀ g, v.ownBlock = some g → N ≤ g ∧ g < w.heap.size := fun g hg => h.2.lt g hg
theorem OwnBks.same {q : IntKind} {e : TypeId} {w w' : World} {N : Nat} {v : Value} {bs : List Blk} (h : OwnBks q e w N v bs) (hk : ∀ g, v.ownBlock = some g → w'.heap[g]? = w.heap[g]?) : OwnBks q e w' N v bs := by
  obtain ⟨h0, h1, h2⟩ := h
  refine ⟨h0, h1, ?_⟩
  rcases h2 with h | ⟨g, cap, cur, rfl, hb, hg, r⟩
  · exact .inl h
  · exact .inr ⟨g, cap, cur, rfl, hb, (hk g rfl).trans hg, r⟩
theorem OwnBks.below {q : IntKind} {e : TypeId} {w w' : World} {N : Nat} {v : Value} {bs : List Blk} (h : OwnBks q e w N v bs) (hb : Below w.heap.size w w') : OwnBks q e w' N v bs :=
  h.same fun g hg => hb.block g (h.own g hg).2
theorem OwnBks.kept {q : IntKind} {e : TypeId} {w w' : World} {N k : Nat} {v : Value} {bs : List Blk} (h : OwnBks q e w N v bs) (hg : w.grownBy w' (some k)) (hk : v.ownBlock ≠ some k) : OwnBks q e w' N v bs :=
  h.same fun g hv => hg.block g (h.own g hv).2 (fun e => hk (by rw [hv, e]))
/-- A file's i-th block. -/
def piece (D : List Nat) (size i : Nat) : List Nat := (D.drop (i * size)).take size
def ints (L : List Nat) : List Int := L.map fun x : Nat => (x : Int)
open Go.Proofs.YtifepgigkmhdaaaDoor.Wm in
/-- The weak sum as a number. -/
def wkN (L : List Nat) : Nat := (hi (ints L) * 65536 + lo (ints L)).toNat
open Go.Proofs.YtifepgigkmhdaaaDoor.Wm in
theorem wkN_is (L : List Nat) : ((wkN L : Nat) : Int) = hi (ints L) * 65536 + lo (ints L) := by
  have := lo_nonneg (ints L)
  have := hi_nonneg (ints L)
  unfold wkN
  omega
open Go.Proofs.YtifepgigkmhdaaaDoor.Wm in
theorem wkN_lt (L : List Nat) : wkN L < 4294967296 := by
  have := lo_lt (ints L)
  have := hi_lt (ints L)
  have := lo_nonneg (ints L)
  have := hi_nonneg (ints L)
  have := wkN_is L
  omega
theorem ints_length (L : List Nat) : (ints L).length = L.length := by simp [ints]
theorem ints_getD (L : List Nat) (i : Nat) : (ints L).getD i 0 = ((L.getD i 0 : Nat) : Int) := by
  unfold ints
  simp only [List.getD, List.getElem?_map]
  cases L[i]? <;> simp
open Go.Proofs.YtifepgigkmhdaaaDoor.Wm in
theorem ints_byt {L : List Nat} (h : All8 L) : Byt (ints L) := by
  intro z hz
  obtain ⟨x, hx, rfl⟩ := List.mem_map.1 hz
  have := h x hx
  omega
end Go.Proofs.YtifepgigkmhdaaaDoor.Ka
/- Block's small functions: Count, fits, span. -/
namespace Go.Proofs.YtifepgigkmhdaaaDoor.Kb
set_option linter.unusedVariables false
set_option linter.unusedSimpArgs false
set_option maxRecDepth 100000
open Go.ChangeShapes Go.WideShapes Go.ChangeAt Go.RowKit
open Go.Proofs.YtifepgigkmhdaaaDoor.Wu Go.Proofs.YtifepgigkmhdaaaDoor.Sm Go.Proofs.YtifepgigkmhdaaaDoor.Sh Go.Proofs.YtifepgigkmhdaaaDoor.Ba Go.Proofs.YtifepgigkmhdaaaDoor.Bp Go.Proofs.YtifepgigkmhdaaaDoor.Ka
theorem div_bd {l s : Int} (hl : 0 ≤ l) (hs : 1 ≤ s) : 0 ≤ l / s ∧ l / s ≤ l ∧ 0 ≤ l % s ∧ l % s < s ∧ (0 < l % s → l / s < l) := by
  have h1 := Int.ediv_nonneg hl (show 0 ≤ s by omega)
  have h2 : l / s ≤ l := Int.ediv_le_self _ hl
  have h3 := Int.emod_nonneg l (show s ≠ 0 by omega)
  have h4 := Int.emod_lt_of_pos l (show 0 < s by omega)
  refine ⟨h1, h2, h3, h4, fun h => ?_⟩
  rcases Int.lt_or_eq_of_le h2 with h5 | h5
  · exact h5
  · exfalso
    have h6 := Int.mul_ediv_add_emod l s
    rw [h5] at h6
    have h7 : l * 1 ≤ l * s := Int.mul_le_mul_of_nonneg_left hs hl
    rw [Int.mul_comm s l] at h6
    omega
theorem count_c (w : World) (l s : Int) (hl : l ≤ 9223372036854775807) :
    Calls Tryd.prog 60 #[.int .i64 l, .int .i64 s] w fun e w' => e = .returned (.int .i64 (cntZ l s)) ∧ w = w' := by
  unfold cntZ
  by_cases h1 : s < 1
  · rw [if_pos (.inl h1)]
    have d1 : decide (s < 1) = true := by simpa using h1
    clear h1 hl
    go_enter Tryd.func60, Tryd.ntmps60
    go_wp2
    go_ret
    exact ⟨rfl, rfl⟩
  · have d1 : decide (s < 1) = false := by simpa using h1
    by_cases h2 : l < 0
    · rw [if_pos (.inr h2)]
      have d2 : decide (l < 0) = true := by simpa using h2
      clear h1 h2 hl
      go_enter Tryd.func60, Tryd.ntmps60
      go_wp2
      go_ret
      exact ⟨rfl, rfl⟩
    · have d2 : decide (l < 0) = false := by simpa using h2
      rw [if_neg (by omega)]
      obtain ⟨b1, b2, b3, b4, b5⟩ := div_bd (show 0 ≤ l by omega) (show 1 ≤ s by omega)
      have e1 : l.tdiv s = l / s := Int.tdiv_eq_ediv_of_nonneg (by omega)
      have e2 : l.tmod s = l % s := Int.tmod_eq_emod_of_nonneg (by omega)
      have hs0 : s ≠ 0 := by omega
      have hs1 : s ≠ -1 := by omega
      generalize l / s = q at *
      generalize l % s = r at *
      by_cases h3 : 0 < r
      · rw [if_pos h3]
        have d3 : decide (0 < r) = true := by simpa using h3
        have b6 := b5 h3
        clear h1 h2 h3 b5
        go_enter Tryd.func60, Tryd.ntmps60
        go_wp2
        go_ret
        exact ⟨rfl, rfl⟩
      · rw [if_neg h3]
        have d3 : decide (0 < r) = false := by simpa using h3
        clear h1 h2 h3 b5
        go_enter Tryd.func60, Tryd.ntmps60
        go_wp2
        go_ret
        exact ⟨rfl, rfl⟩
theorem refcount_c (w : World) (l s : Int) (hl : l ≤ 9223372036854775807) :
    Calls Tryd.prog 61 #[.int .i64 l, .int .i64 s] w fun e w' => e = .returned (.int .i64 (cntZ l s)) ∧ w = w' := by
  unfold cntZ
  by_cases h1 : s < 1
  · rw [if_pos (.inl h1)]
    have d1 : decide (s < 1) = true := by simpa using h1
    clear h1 hl
    go_enter Tryd.func61, Tryd.ntmps61
    go_wp2
    go_ret
    exact ⟨rfl, rfl⟩
  · have d1 : decide (s < 1) = false := by simpa using h1
    by_cases h2 : l < 0
    · rw [if_pos (.inr h2)]
      have d2 : decide (l < 0) = true := by simpa using h2
      clear h1 h2 hl
      go_enter Tryd.func61, Tryd.ntmps61
      go_wp2
      go_ret
      exact ⟨rfl, rfl⟩
    · have d2 : decide (l < 0) = false := by simpa using h2
      rw [if_neg (by omega)]
      obtain ⟨b1, b2, b3, b4, b5⟩ := div_bd (show 0 ≤ l by omega) (show 1 ≤ s by omega)
      have e1 : l.tdiv s = l / s := Int.tdiv_eq_ediv_of_nonneg (by omega)
      have e2 : l.tmod s = l % s := Int.tmod_eq_emod_of_nonneg (by omega)
      have hs0 : s ≠ 0 := by omega
      have hs1 : s ≠ -1 := by omega
      generalize l / s = q at *
      generalize l % s = r at *
      by_cases h3 : 0 < r
      · rw [if_pos h3]
        have d3 : (r == 0) = false := by simp; omega
        have b6 := b5 h3
        clear h1 h2 h3 b5
        go_enter Tryd.func61, Tryd.ntmps61
        go_wp2
        go_ret
        exact ⟨rfl, rfl⟩
      · rw [if_neg h3]
        obtain rfl : r = 0 := by omega
        clear h1 h2 h3 b5
        go_enter Tryd.func61, Tryd.ntmps61
        go_wp2
        go_ret
        exact ⟨rfl, rfl⟩
/-- A signature's value. -/
def sigV (sz cut len : Int) (v : Value) : Value := .agg #[.int .i64 sz, .int .i64 cut, .int .i64 len, v]
set_option maxHeartbeats 1600000 in
theorem fits_c (w : World) (sz cut len : Int) (v : Value) (hv : v.oneCell' = true) (hl : len ≤ 9223372036854775807) :
    Calls Tryd.prog 59 #[sigV sz cut len v] w fun e w' => e = .returned (.int .i64 (fitsE sz cut len)) ∧ Below w.heap.size w w' := by
  have HC := hide (fun u : World => count_c u len sz hl)
  clear hl
  unfold fitsE sigV
  by_cases h1 : sz < 1
  · rw [if_pos (.inl h1)]
    have d1 : decide (sz < 1) = true := by simpa using h1
    clear h1
    go_enter Tryd.func59, Tryd.ntmps59
    go_wp2
    go_ret
    exact ⟨rfl, below_new _ _⟩
  have d1 : decide (sz < 1) = false := by simpa using h1
  by_cases h2 : 4096 < sz
  · rw [if_pos (.inr (.inl h2))]
    have d2 : decide (4096 < sz) = true := by simpa using h2
    clear h1 h2
    go_enter Tryd.func59, Tryd.ntmps59
    go_wp2
    go_ret
    exact ⟨rfl, below_new _ _⟩
  have d2 : decide (4096 < sz) = false := by simpa using h2
  by_cases h3 : cut < 0
  · rw [if_pos (.inr (.inr (.inl h3)))]
    have d3 : decide (cut < 0) = true := by simpa using h3
    clear h1 h2 h3
    go_enter Tryd.func59, Tryd.ntmps59
    go_wp2
    go_ret
    exact ⟨rfl, below_new _ _⟩
  have d3 : decide (cut < 0) = false := by simpa using h3
  by_cases h4 : 32 < cut
  · rw [if_pos (.inr (.inr (.inr (.inl h4))))]
    have d4 : decide (32 < cut) = true := by simpa using h4
    clear h1 h2 h3 h4
    go_enter Tryd.func59, Tryd.ntmps59
    go_wp2
    go_ret
    exact ⟨rfl, below_new _ _⟩
  have d4 : decide (32 < cut) = false := by simpa using h4
  by_cases h5 : len < 0
  · rw [if_pos (.inr (.inr (.inr (.inr h5))))]
    have d5 : decide (len < 0) = true := by simpa using h5
    clear h1 h2 h3 h4 h5
    go_enter Tryd.func59, Tryd.ntmps59
    go_wp2
    go_ret
    exact ⟨rfl, below_new _ _⟩
  have d5 : decide (len < 0) = false := by simpa using h5
  rw [if_neg (by omega)]
  clear h1 h2 h3 h4 h5
  generalize cntZ len sz = n at *
  by_cases h6 : 4096 < n
  · rw [if_pos h6]
    have d6 : decide (4096 < n) = true := by simpa using h6
    clear h6
    go_enter Tryd.func59, Tryd.ntmps59
    go_wp2_with fail
    refine (HC.out _).mono ?_
    rintro e w1 ⟨rfl, rfl⟩
    go_wp2
    go_ret
    exact ⟨rfl, below_new _ _⟩
  · rw [if_neg h6]
    have d6 : decide (4096 < n) = false := by simpa using h6
    clear h6
    go_enter Tryd.func59, Tryd.ntmps59
    go_wp2_with fail
    refine (HC.out _).mono ?_
    rintro e w1 ⟨rfl, rfl⟩
    go_wp2
    go_ret
    exact ⟨rfl, below_new _ _⟩
end Go.Proofs.YtifepgigkmhdaaaDoor.Kb
/- Block's span; blocks loaded and compared. -/
namespace Go.Proofs.YtifepgigkmhdaaaDoor.Kc
set_option linter.unusedVariables false
set_option linter.unusedSimpArgs false
set_option maxRecDepth 100000
open Go.ChangeShapes Go.WideShapes Go.ChangeAt Go.RowKit
open Go.Proofs.YtifepgigkmhdaaaDoor.Wu Go.Proofs.YtifepgigkmhdaaaDoor.Sm Go.Proofs.YtifepgigkmhdaaaDoor.Sh Go.Proofs.YtifepgigkmhdaaaDoor.Ba Go.Proofs.YtifepgigkmhdaaaDoor.Bp Go.Proofs.YtifepgigkmhdaaaDoor.Ka Go.Proofs.YtifepgigkmhdaaaDoor.Kb Go.Proofs.YtifepgigkmhdaaaDoor.Se Go.Proofs.YtifepgigkmhdaaaDoor.Rk
attribute [local go_sem] kUpon_value kUpon_skip kUpon_enter
theorem span_c (w : World) (sz cut len i : Int) (v : Value) (h1 : 0 ≤ i) (h2 : i ≤ 16777216) (h3 : 1 ≤ sz) (h4 : sz ≤ 4096) (h5 : 0 ≤ len) (h6 : len ≤ 9223372036854775807) :
    Calls Tryd.prog 62 #[sigV sz cut len v, .int .i64 i] w fun e w' => e = .returned (.tuple #[.int .i64 (i * sz), .int .i64 (min sz (len - i * sz))]) ∧ Below w.heap.size w w' := by
  unfold sigV
  have hm : 0 ≤ i * sz := Int.mul_nonneg h1 (by omega)
  have hm2 : i * sz ≤ 16777216 * 4096 := Int.mul_le_mul h2 h4 (by omega) (by omega)
  obtain ⟨at_, hat⟩ : ∃ at_, at_ = i * sz := ⟨_, rfl⟩
  obtain ⟨n, hn⟩ : ∃ n, n = min sz (len - at_) := ⟨_, rfl⟩
  rw [← hat] at hm hm2 ⊢
  rw [← hn]
  have e1 : wrap64 (i * sz) = at_ := by rw [← hat]; exact IntWalk.wrap64_in _ (by omega)
  have e3 : wrap64 (len - at_) = len - at_ := IntWalk.wrap64_in _ (by omega)
  have e4 : (if len - at_ < sz then len - at_ else sz) = n := by rw [hn]; split <;> omega
  clear hat hn
  have Hb := hide (below_new w (.cells #[.int .i64 sz, .int .i64 cut, .int .i64 len, v] 49))
  have c0 : (w.alloc (.cells #[.int .i64 sz, .int .i64 cut, .int .i64 len, v] 49)).cell? ⟨w.heap.size, 0, none⟩ = some (.int .i64 sz) := blk_cell (heap_last _ _) rfl
  have c2 : (w.alloc (.cells #[.int .i64 sz, .int .i64 cut, .int .i64 len, v] 49)).cell? ⟨w.heap.size, 2, none⟩ = some (.int .i64 len) := blk_cell (heap_last _ _) rfl
  go_enter Tryd.func62, Tryd.ntmps62
  go_wp2_with fail
  generalize (w.alloc (.cells #[.int .i64 sz, .int .i64 cut, .int .i64 len, v] 49)) = w1 at *
  go_quiet (fail)
  have HB2 := hide (below_drewN Hb.out nq)
  go_wp2
  go_ret2
  refine ⟨?_, HB2.out⟩
  show Ending.returned (.tuple #[.int .i64 (wrap64 (i * sz)), .int .i64 n]) = _
  rw [e1]
theorem und_int : Tryd.prog.underlying 3 = some (.int .i64) := Tryd.underlying3
/-- Blocks' values. -/
def blkV (q : IntKind) (b : Blk) : Value := .agg (blkC q b).toArray
theorem agg_sum (u : World) : Sem.run Tryd.prog (isAgg 79) u = .ok true u := by kernel_rfl
theorem agg_int (u : World) : Sem.run Tryd.prog (isAgg 3) u = .ok false u := by kernel_rfl
theorem agg_u32 (u : World) : Sem.run Tryd.prog (isAgg 68) u = .ok false u := by kernel_rfl
theorem size_sum (u : World) : Sem.run Tryd.prog (sizeOf 79) u = .ok 32 u := by kernel_rfl
theorem blk_tail (q : IntKind) (b : Blk) (h : b.ok) : (blkC q b).toArray.extract 1 33 = u8s b.s := by
  apply Array.toList_inj.1
  have := blkC_length (q := q) h
  simp [blkC, u8s_list, List.take_of_length_le, b8_length, h.2.1]
theorem part_sum (q : IntKind) (b : Blk) (h : b.ok) (u : World) : Sem.run Tryd.prog (part 79 (blkC q b).toArray 1) u = .ok (.agg (u8s b.s)) u := by
  simp only [part, Sem.run_bind, agg_sum, size_sum, Result.andThen_ok, if_true]
  rw [blk_tail q b h]
  rfl
theorem part_weak (q : IntKind) (T : TypeId) (hT : ∀ u, Sem.run Tryd.prog (isAgg T) u = .ok false u) (b : Blk) (u : World) : Sem.run Tryd.prog (part T (blkC q b).toArray 0) u = .ok (.int q (b.w : Int)) u := by
  simp only [part, Sem.run_bind, hT, Result.andThen_ok]
  simp [blkC, go_sem]
theorem sum_eq_at (d : Nat) (X Y : List Nat) (hX : X.length = 32) (hY : Y.length = 32) (u : World) :
    Sem.run Tryd.prog (Op.equalIn (d + 2) 79 (.agg (u8s X)) (.agg (u8s Y))) u = .ok (decide (X = Y)) u := by
  obtain ⟨i, hi, _⟩ := Option.map_eq_some_iff.1 info_u8s
  rw [run_equalIn_array (P := Tryd.prog) u (d + 1) (t := 79) (e := 5) (n := 32) (i := i) (u8s X) (u8s Y) Tryd.underlying79 hi, cells_u8, items_u8 d X Y u (List.range 32) (fun i hi => by rw [List.mem_range] at hi; omega), all_range X Y hX hY]
theorem fields_blk : (Tryd.prog.fieldsOf 81).toList.map (fun f => (f.name, f.type, f.offset)) = [("Weak", 68, 0), ("Strong", 79, 1)] := by kernel_rfl
theorem fields_ref : (Tryd.prog.fieldsOf 132).toList.map (fun f => (f.name, f.type, f.offset)) = [("Weak", 3, 0), ("Strong", 79, 1)] := by kernel_rfl
theorem blk_eq_any (q q' : IntKind) (T W : TypeId) (hT : Tryd.prog.underlying T = some (.struct (Tryd.prog.fieldsOf T))) (hF : (Tryd.prog.fieldsOf T).toList.map (fun f => (f.name, f.type, f.offset)) = [("Weak", W, 0), ("Strong", 79, 1)]) (hs : Tryd.prog.stoodInHeld T = false) (hW : Tryd.prog.underlying W = some (.int q')) (hA : ∀ u, Sem.run Tryd.prog (isAgg W) u = .ok false u) (b c : Blk) (hb : b.ok) (hc : c.ok) (u : World) :
    Sem.run Tryd.prog (Op.equalIn 10000 T (.agg (blkC q b).toArray) (.agg (blkC q c).toArray)) u = .ok (decide (b = c)) u := by
  rw [run_equalIn_struct u 9999 T _ _ hT hs]
  have hsum := sum_eq_at 9997 b.s c.s hb.2.1 hc.2.1
  revert hF
  generalize (Tryd.prog.fieldsOf T).toList = fs
  intro hF
  have hl : fs.length = 2 := by have := congrArg List.length hF; simpa using this
  obtain ⟨f, g, rfl⟩ : ∃ f g, fs = [f, g] := by
    rcases fs with _ | ⟨f, _ | ⟨g, _ | ⟨k, l⟩⟩⟩
    · simp at hl
    · simp at hl
    · exact ⟨f, g, rfl⟩
    · simp at hl
  simp only [List.map_cons, List.map_nil, List.cons.injEq, Prod.mk.injEq, and_true] at hF
  obtain ⟨⟨f1, f2, f3⟩, g1, g2, g3⟩ := hF
  simp only [Op.eqFields, f1, f2, f3, g1, g2, g3, Sem.run_bind, part_weak q W hA, part_sum q _ hb, part_sum q _ hc, Result.andThen_ok, run_equalIn_int u 9998 W q q' _ _ hW, hsum, Sem.run_ite, Sem.run_pure, ne_eq, String.reduceEq, not_false_eq_true, if_true]
  by_cases hw : b.w = c.w
  · have e1 : ((b.w : Int) == (c.w : Int)) = true := by simp [hw]
    by_cases hs : b.s = c.s
    · have : b = c := by cases b; cases c; simp_all
      simp [e1, hs, this]
    · have : b ≠ c := fun e => hs (by rw [e])
      simp [e1, hs, this]
  · have e1 : ((b.w : Int) == (c.w : Int)) = false := by simp only [beq_eq_false_iff_ne]; omega
    have : b ≠ c := fun e => hw (by rw [e])
    simp [e1, this]
theorem blk_eq (b c : Blk) (hb : b.ok) (hc : c.ok) (u : World) : Sem.run Tryd.prog (Op.equalIn 10000 81 (.agg (blkC .u32 b).toArray) (.agg (blkC .u32 c).toArray)) u = .ok (decide (b = c)) u :=
  blk_eq_any .u32 .u32 81 68 (by kernel_rfl) fields_blk (by kernel_rfl) Tryd.underlying68 agg_u32 b c hb hc u
theorem ref_eq (b c : Blk) (hb : b.ok) (hc : c.ok) (u : World) : Sem.run Tryd.prog (Op.equalIn 10000 132 (.agg (blkC .i64 b).toArray) (.agg (blkC .i64 c).toArray)) u = .ok (decide (b = c)) u :=
  blk_eq_any .i64 .i64 132 3 (by kernel_rfl) fields_ref (by kernel_rfl) Tryd.underlying3 agg_int b c hb hc u
end Go.Proofs.YtifepgigkmhdaaaDoor.Kc
/- append of a block to a slice of the call's own; a signature in memory. -/
namespace Go.Proofs.YtifepgigkmhdaaaDoor.Kd
set_option linter.unusedVariables false
set_option linter.unusedSimpArgs false
set_option maxRecDepth 100000
open Go.ChangeShapes Go.WideShapes Go.ChangeAt Go.RowKit
open Go.Proofs.YtifepgigkmhdaaaDoor.Wu Go.Proofs.YtifepgigkmhdaaaDoor.Sm Go.Proofs.YtifepgigkmhdaaaDoor.Sh Go.Proofs.YtifepgigkmhdaaaDoor.Ba Go.Proofs.YtifepgigkmhdaaaDoor.Bp Go.Proofs.YtifepgigkmhdaaaDoor.Ka Go.Proofs.YtifepgigkmhdaaaDoor.Kb Go.Proofs.YtifepgigkmhdaaaDoor.Kc
theorem info_blk : (Tryd.prog.info? 81).map (fun i => (i.zero, i.size, i.bytes)) = some (some (blkV .u32 ⟨0, zeros 32⟩), 33, 36) := by kernel_rfl
theorem info_ref : (Tryd.prog.info? 132).map (fun i => (i.zero, i.size, i.bytes)) = some (some (blkV .i64 ⟨0, zeros 32⟩), 33, 40) := by kernel_rfl
theorem blk_cells {q : IntKind} {w : World} {b : Nat} {x : Blk} {T : TypeId} {f : Nat × Nat} (h : w.heap[b]? = some (.cells (blkC q x).toArray T f)) : ∀ j u, (blkC q x)[j]? = some u → w.cell? ((⟨b, 0, none⟩ : Addr).add j) = some u := by
  intro j u hu
  rw [Addr.add_mid, Nat.zero_add]
  exact blk_cell h (by simpa using hu)
/-- append(list, x) -/
theorem append_bk (q : IntKind) (sT e : TypeId) (z : Value) (by_ : Nat) (hu : Tryd.prog.underlying sT = some (.slice e)) (hi : (Tryd.prog.info? e).map (fun i => (i.zero, i.size, i.bytes)) = some (some z, 33, by_)) (hby : by_ ≤ 40) (hz33 : z.cells.size = 33)
    (w : World) (ty : TypeId) (v : Value) (N : Nat) (bs : List Blk) (b : Nat) (x : Blk) (T : TypeId) (f : Nat × Nat) (c : Nat) (h : OwnBks q e w N v bs) (hN : N ≤ w.heap.size) (hx : x.ok) (hb : w.heap[b]? = some (.cells (blkC q x).toArray T f)) (hbig : bs.length ≤ 1000000000) :
    ∃ v' w', (Builtin.append_ #[sT, sT] ty #[v, .slice (some ⟨b, 0, none⟩) 1 c]).run Tryd.prog w = .ok v' w' ∧ OwnBks q e w' N v' (bs ++ [x]) ∧ w.grownBy w' v.ownBlock ∧ (v'.ownBlock = v.ownBlock ∨ v'.ownBlock = some w.heap.size) := by
  obtain ⟨i0, hi0, hz0, hz1, hz2⟩ := info_parts hi
  obtain ⟨h0, ho⟩ := h
  have h33 := blkC_length (q := q) hx
  obtain ⟨v', w', hr, h1, h2, h3, h4⟩ := run_append_own_at (P := Tryd.prog) w N sT ty e i0 _ 33 by_ hu hi0 hz0 hz1 hz2 hz33 (by omega) v bs.length (rowC q bs) ho ⟨b, 0, none⟩ 1 c (blkC q x) (by rw [h33]) (blk_cells hb) (blkC_one q x) (by unfold maxLen; omega) (Nat.le_trans (Nat.mul_le_mul (show bs.length + 1 ≤ 1000000001 by omega) hby) (by omega)) hN
  refine ⟨v', w', hr, ⟨?_, ?_⟩, h2, h4⟩
  · intro y hy
    rcases List.mem_append.1 hy with hy | hy
    · exact h0 y hy
    · rw [List.mem_singleton.1 hy]; exact hx
  · rw [rowC_append, List.length_append]
    have : rowC q [x] = blkC q x := by simp [rowC]
    rw [this]
    exact h1
/-- A signature's cells in block S. -/
def Sig4 (T : TypeId) (w : World) (S : Nat) (sz cut len : Int) (v : Value) : Prop := w.heap[S]? = some (.cells #[.int .i64 sz, .int .i64 cut, .int .i64 len, v] T (0, 0))
section
variable {T : TypeId} {w : World} {S : Nat} {sz cut len : Int} {v : Value}
theorem Sig4.cells (h : Sig4 T w S sz cut len v) : w.cell? ⟨S, 0, none⟩ = some (.int .i64 sz) ∧ w.cell? ⟨S, 1, none⟩ = some (.int .i64 cut) ∧ w.cell? ⟨S, 2, none⟩ = some (.int .i64 len) ∧ w.cell? ⟨S, 3, none⟩ = some v :=
  ⟨blk_cell h rfl, blk_cell h rfl, blk_cell h rfl, blk_cell h rfl⟩
theorem Sig4.free (h : Sig4 T w S sz cut len v) (i : Nat) : w.frozen? ⟨S, i, none⟩ = false := blk_free h
theorem Sig4.setList (h : Sig4 T w S sz cut len v) (x : Value) : Sig4 T (w.setCell ⟨S, 3, none⟩ x) S sz cut len x := by
  have := blk_set (i := 3) h x
  unfold Sig4
  rw [this]
  simp
theorem Sig4.below {w' : World} (h : Sig4 T w S sz cut len v) (hb : Below w.heap.size w w') : Sig4 T w' S sz cut len v := below_blk hb (heap_lt h) h
theorem Sig4.kept {w' : World} {row : Option Nat} (h : Sig4 T w S sz cut len v) (hg : w.grownBy w' row) (hS : some S ≠ row) : Sig4 T w' S sz cut len v := (hg.block S (heap_lt h) hS).trans h
end
theorem und_sig : Tryd.prog.underlying 49 = some (.struct (Tryd.prog.fieldsOf 49)) := by kernel_rfl
end Go.Proofs.YtifepgigkmhdaaaDoor.Kd
/- sum.Cut and weak.Of at a slice of bytes; what block.Make lays. -/
namespace Go.Proofs.YtifepgigkmhdaaaDoor.Ke
set_option linter.unusedVariables false
set_option linter.unusedSimpArgs false
set_option maxRecDepth 100000
open Go.ChangeShapes Go.WideShapes Go.ChangeAt Go.RowKit
open Go.Proofs.YtifepgigkmhdaaaDoor.Wu Go.Proofs.YtifepgigkmhdaaaDoor.Sm Go.Proofs.YtifepgigkmhdaaaDoor.Sh Go.Proofs.YtifepgigkmhdaaaDoor.Ba Go.Proofs.YtifepgigkmhdaaaDoor.Bp Go.Proofs.YtifepgigkmhdaaaDoor.Ka Go.Proofs.YtifepgigkmhdaaaDoor.Kb Go.Proofs.YtifepgigkmhdaaaDoor.Kc Go.Proofs.YtifepgigkmhdaaaDoor.Kd Go.Proofs.YtifepgigkmhdaaaDoor.Rk Go.Proofs.YtifepgigkmhdaaaDoor.Rg
open Go.Proofs.YtifepgigkmhdaaaDoor.Sn (Fst fst_keep)
open Go.Proofs.YtifepgigkmhdaaaDoor.Sxa (Tbl tbl_keep)
open Go.Proofs.YtifepgigkmhdaaaDoor.Su (cutL Cnt)
attribute [local go_sem] kUpon_value kUpon_skip kUpon_enter
theorem cut_b (n : Int) (k : Nat) (a : Option Addr) (m c : Nat) (L : List Nat) (w : World) (hk : Cnt n k) (hs : SrcB w a m L) (hc : m ≤ c) (hT : Tbl w) (hF : Fst w) (hbig : m ≤ 140737488355328) :
    Calls Tryd.prog 63 #[.int .i64 n, .slice a m c] w fun e w' => e = .returned (.agg (u8s (cutL k (sha L)))) ∧ Below w.heap.size w w' := Su.cut_c n k a m c L w hk hs hc hT hF hbig
open Go.Proofs.YtifepgigkmhdaaaDoor.Wm in
theorem weak_b (a : Option Addr) (m c : Nat) (L : List Nat) (w : World) (hs : SrcB w a m L) (hbig : m < 2147483648) :
    Calls Tryd.prog 34 #[.slice a m c] w fun e w' => e = .returned (.agg #[.int .i64 (m : Int), .int .u16 (lo (ints L)), .int .u16 (hi (ints L))]) ∧ Below w.heap.size w w' := by
  obtain ⟨hl, h8, b, off, ha, hcell⟩ := hs
  rcases Nat.eq_zero_or_pos m with h0 | h0
  · subst h0
    obtain rfl : L = [] := List.length_eq_zero_iff.1 hl
    exact Wc.of_none a c w
  · rw [ha h0]
    have h1 := hcell 0 h0
    refine Wc.of_row b off c m (ints L) w (by rw [ints_length, hl]) (ints_byt h8) hbig (cell_lt h1) (fun i hi => ?_)
    rw [ints_getD]
    exact hcell i hi
open Go.Proofs.YtifepgigkmhdaaaDoor.Wm in
theorem value_b (m : Nat) (L : List Nat) (w : World) :
    Calls Tryd.prog 35 #[.agg #[.int .i64 (m : Int), .int .u16 (lo (ints L)), .int .u16 (hi (ints L))]] w fun e w' => e = .returned (.int .u32 ((wkN L : Nat) : Int)) ∧ Below w.heap.size w w' := by
  have h := Wk.value_any (m : Int) (lo (ints L)) (hi (ints L)) w (lo_nonneg _) (lo_lt _) (hi_nonneg _) (hi_lt _)
  rw [wkN_is]
  exact h
/-- A block's sums, by its bytes. -/
def blkOf (k : Nat) (L : List Nat) : Blk := ⟨wkN L, cutL k (sha L)⟩
theorem all8_sub {X : List Nat} (h : All8 X) (k n : Nat) : All8 (X.take k ++ zeros n) := by
  intro x hx
  rcases List.mem_append.1 hx with hx | hx
  · exact h x (List.mem_of_mem_take hx)
  · rw [List.eq_of_mem_replicate hx]; omega
theorem sha_len (L : List Nat) : (sha L).length = 32 := by rfl
theorem blkOf_ok (k : Nat) (hk : k ≤ 32) (L : List Nat) : (blkOf k L).ok := by
  refine ⟨wkN_lt L, Su.cutL_length k _ hk (sha_len L), ?_⟩
  exact all8_sub (all8_sha L) k (32 - k)
/-- All blocks of a file. -/
def mkB (D : List Nat) (sz k n : Nat) : List Blk := (List.range n).map fun i => blkOf k (piece D sz i)
theorem mkB_length (D : List Nat) (sz k n : Nat) : (mkB D sz k n).length = n := by simp [mkB]
theorem mkB_snoc (D : List Nat) (sz k n : Nat) : mkB D sz k (n + 1) = mkB D sz k n ++ [blkOf k (piece D sz n)] := by simp [mkB, List.range_succ]
theorem mkB_oks (D : List Nat) (sz k n : Nat) (hk : k ≤ 32) : Oks (mkB D sz k n) := by
  intro b hb
  obtain ⟨i, _, rfl⟩ := List.mem_map.1 hb
  exact blkOf_ok k hk _
/-- A list of blocks under way: the signature in S holds the slice v, what the list has is vo's; R holds the call's result. -/
structure MB (q : IntKind) (e T : TypeId) (w0 : World) (R S N : Nat) (rc : Obj) (sz cut len : Int) (v vo : Value) (bs : List Blk) (u : World) : Prop where
  below : Below w0.heap.size w0 u
  hS : w0.heap.size ≤ S
  SN : S < N
  RN : R < N
  RS : R ≠ S
  Nu : N ≤ u.heap.size
  sig : Sig4 T u S sz cut len v
  res : u.heap[R]? = some rc
  own : OwnBks q e u N vo bs
section
variable {q : IntKind} {e T : TypeId} {w0 : World} {R S N : Nat} {rc : Obj} {sz cut len : Int} {v vo v0 : Value} {bs : List Blk} {x : Blk}
theorem MB.up {u u' : World} (H : MB q e T w0 R S N rc sz cut len v vo bs u) (hb : Below u.heap.size u u') : MB q e T w0 R S N rc sz cut len v vo bs u' :=
  ⟨keepB hb (Nat.le_refl _) H.below, H.hS, H.SN, H.RN, H.RS, Nat.le_trans H.Nu hb.size, H.sig.below hb, below_blk hb (heap_lt H.res) H.res, H.own.below hb⟩
theorem MB.store {u : World} (H : MB q e T w0 R S N rc sz cut len v vo bs u) : MB q e T w0 R S N rc sz cut len vo vo bs (u.setCell ⟨S, 3, none⟩ vo) := by
  have hg := grown_setCell (World.grownBy.refl u (some S)) 3 vo
  exact ⟨H.below.setCell H.hS _, H.hS, H.SN, H.RN, H.RS, by simpa [World.setCell] using H.Nu, H.sig.setList vo, keepG hg H.RS H.res, H.own.kept hg (fun e => by have := (H.own.own _ e).1; have := H.SN; omega)⟩
theorem MB.append {u u' : World} {v' : Value} (H : MB q e T w0 R S N rc sz cut len v vo bs u) (hg : u.grownBy u' vo.ownBlock) (ho : OwnBks q e u' N v' (bs ++ [x])) : MB q e T w0 R S N rc sz cut len v v' (bs ++ [x]) u' := by
  have hlt : ∀ k, vo.ownBlock = some k → N ≤ k := fun k hk => (H.own.own k hk).1
  have h1 := H.hS
  have h2 := H.SN
  have h3 := H.RN
  refine ⟨H.below.grown hg H.below.size (fun k hk => by have := hlt k hk; omega), H.hS, H.SN, H.RN, H.RS, Nat.le_trans H.Nu hg.size, H.sig.kept hg (fun e => by have := hlt S e.symm; omega), ?_, ho⟩
  exact (hg.block R (heap_lt H.res) (fun e => by have := hlt R e.symm; omega)).trans H.res
/-- The stages of the round's region. -/
def MT (q : IntKind) (e T : TypeId) (w0 : World) (R S N : Nat) (rc : Obj) (sz cut len : Int) (v0 : Value) (bs : List Blk) (x : Blk) : List Value → World → Prop
  | [], u => MB q e T w0 R S N rc sz cut len v0 v0 bs u
  | [b], u => MB q e T w0 R S N rc sz cut len v0 v0 bs u ∧ ∃ B, b = .slice (some ⟨B, 0, none⟩) 1 1 ∧ ∃ T f, u.heap[B]? = some (.cells (blkC q x).toArray T f)
  | [_, v], u => MB q e T w0 R S N rc sz cut len v0 v (bs ++ [x]) u
  | [_, v, _], u => MB q e T w0 R S N rc sz cut len v v (bs ++ [x]) u
  | _, _ => False
theorem MT.base {h : List Value} {u : World} (H : MT q e T w0 R S N rc sz cut len v0 bs x h u) : Below w0.heap.size w0 u := by
  match h, H with
  | [], H => exact H.below
  | [_], H => exact H.1.below
  | [_, _], H => exact MB.below H
  | [_, _, _], H => exact MB.below H
theorem MT.up {h : List Value} {u u' : World} (H : MT q e T w0 R S N rc sz cut len v0 bs x h u) (hb : Below u.heap.size u u') : MT q e T w0 R S N rc sz cut len v0 bs x h u' := by
  match h, H with
  | [], H => exact MB.up H hb
  | [_], ⟨H, B, h6, T', f, h7⟩ => exact ⟨H.up hb, B, h6, T', f, below_blk hb (heap_lt h7) h7⟩
  | [_, _], H => exact MB.up H hb
  | [_, _, _], H => exact MB.up H hb
/-- The signature's cells at the first stages. -/
theorem MT.sig {h : List Value} {u : World} (H : MT q e T w0 R S N rc sz cut len v0 bs x h u) (hl : h.length ≤ 1) : Sig4 T u S sz cut len v0 := by
  match h, H with
  | [], H => exact MB.sig H
  | [_], H => exact H.1.sig
  | [_, _], H => simp at hl
  | [_, _, _], H => simp at hl
end
end Go.Proofs.YtifepgigkmhdaaaDoor.Ke
/- Blocks of cells loaded and stored whole, whatever they hold. For any program. -/
namespace Go.Proofs.YtifepgigkmhdaaaDoor.Rw
set_option linter.unusedVariables false
set_option linter.unusedSimpArgs false
set_option maxRecDepth 100000
open Go.RowKit
open Go.Proofs.YtifepgigkmhdaaaDoor.Wu Go.Proofs.YtifepgigkmhdaaaDoor.Ba Go.Proofs.YtifepgigkmhdaaaDoor.Rk Go.Proofs.YtifepgigkmhdaaaDoor.Rx
theorem range_all {w : World} {b : Nat} {X : Array Value} {T : TypeId} {f : Nat × Nat} (h : w.heap[b]? = some (.cells X T f)) : w.rangeAt b 0 X.toList := fun j v hv => by
  rw [Nat.zero_add]
  exact blk_cell h (by simpa using hv)
theorem set_all {w : World} {b : Nat} {X Y : Array Value} {T : TypeId} {f : Nat × Nat} (h : w.heap[b]? = some (.cells Y T f)) (hl : X.size = Y.size) : (w.setCells b 0 X.toList).heap[b]? = some (.cells X T f) := by
  have e := blk_setCells X.toList 0 w Y.toList (by simp; omega) (by rw [Array.toArray_toList]; exact h)
  rw [e, List.take_zero, List.nil_append, List.drop_eq_nil_of_le (by simp; omega), List.append_nil, Array.toArray_toList]
theorem wpList_store_all {P : Program} {ops : Array Oper} {rest : List Oper} {op : Oper} {a : Act} {w : World} {Q : Exit → Act → World → Prop} (hgd : op.guard = none) (ty : TypeId) (x y : Operand) (ho : op.op = .store ty x y)
    (b : Nat) (X Y : Array Value) (T : TypeId) (hx : a.eval x = .pointer (some ⟨b, 0, none⟩)) (hy : a.eval y = .agg X) (hg : w.heap[b]? = some (.cells Y T (0, 0))) (hl : X.size = Y.size)
    (hi : (P.info? ty).map (·.size) = some X.size) (h1 : X.all (·.oneCell') = true)
    (h : ∀ w', Hid (w'.heap[b]? = some (.cells X T (0, 0))) → Hid (w.grownBy w' (some b)) → Hid (wpList P ops Q rest (a.put op.dst undef) w')) : wpList P ops Q (op :: rest) a w :=
  wpList_store_mid hgd ty x y ho b 0 X hx hy (by rw [hl]; exact there_all hg) hi h1 (h _ (set_all hg hl) (grown_setCells _ _ _))
theorem wpList_load_all {P : Program} {ops : Array Oper} {rest : List Oper} {op : Oper} {a : Act} {w : World} {Q : Exit → Act → World → Prop} (hgd : op.guard = none) (ty : TypeId) (x : Operand) (ho : op.op = .load ty x)
    (b : Nat) (X : Array Value) (T : TypeId) (f : Nat × Nat) (hx : a.eval x = .pointer (some ⟨b, 0, none⟩)) (hg : w.heap[b]? = some (.cells X T f)) (d : TypeDesc)
    (hu : P.underlying ty = some d) (hd : d.isRow = true) (hi : (P.info? ty).map (·.size) = some X.size)
    (h : wpList P ops Q rest (a.put op.dst (.agg X)) w) : wpList P ops Q (op :: rest) a w := by
  refine wpList_load_mid hgd ty x ho b 0 hx X.toList d (range_all hg) hu hd (by rw [Array.length_toList]; exact hi) ?_
  rw [Array.toArray_toList]
  exact h
/-- A part of a block. -/
theorem wpList_load_part {P : Program} {ops : Array Oper} {rest : List Oper} {op : Oper} {a : Act} {w : World} {Q : Exit → Act → World → Prop} (hgd : op.guard = none) (ty : TypeId) (x : Operand) (ho : op.op = .load ty x)
    (b o : Nat) (cs : List Value) (hx : a.eval x = .pointer (some ⟨b, o, none⟩)) (hg : w.rangeAt b o cs) (d : TypeDesc)
    (hu : P.underlying ty = some d) (hd : d.isRow = true) (hi : (P.info? ty).map (·.size) = some cs.length)
    (h : wpList P ops Q rest (a.put op.dst (.agg cs.toArray)) w) : wpList P ops Q (op :: rest) a w :=
  wpList_load_mid hgd ty x ho b o hx cs d hg hu hd hi h
theorem wpList_wanted {P : Program} {ops : Array Oper} {rest : List Oper} {o : Oper} {a : Act} {w : World} {Q : Exit → Act → World → Prop} (hw : Region.wanted o (yielded ops a.tmps) = true)
    (h : ∀ K : Act → World → Prop, (∀ a w, wpList P ops Q rest a w → K a w) → o.wp P a w K Q) : wpList P ops Q (o :: rest) a w :=
  wpList_step fun K hK => by simp only [hw, if_true]; exact h K hK
/-- The same where it is guarded, and wanted. -/
theorem wpList_load_partw {P : Program} {ops : Array Oper} {rest : List Oper} {op : Oper} {a : Act} {w : World} {Q : Exit → Act → World → Prop} (hw : Region.wanted op (yielded ops a.tmps) = true) (ty : TypeId) (x : Operand) (ho : op.op = .load ty x)
    (b o : Nat) (cs : List Value) (hx : a.eval x = .pointer (some ⟨b, o, none⟩)) (hg : w.rangeAt b o cs) (d : TypeDesc)
    (hu : P.underlying ty = some d) (hd : d.isRow = true) (hi : (P.info? ty).map (·.size) = some cs.length)
    (h : wpList P ops Q rest (a.put op.dst (.agg cs.toArray)) w) : wpList P ops Q (op :: rest) a w :=
  wpList_wanted hw fun K hK => wp_load_mid ty x ho b o hx cs d hg hu hd hi (hK _ _ h)
theorem wpList_load_allw {P : Program} {ops : Array Oper} {rest : List Oper} {op : Oper} {a : Act} {w : World} {Q : Exit → Act → World → Prop} (hw : Region.wanted op (yielded ops a.tmps) = true) (ty : TypeId) (x : Operand) (ho : op.op = .load ty x)
    (b : Nat) (X : Array Value) (T : TypeId) (f : Nat × Nat) (hx : a.eval x = .pointer (some ⟨b, 0, none⟩)) (hg : w.heap[b]? = some (.cells X T f)) (d : TypeDesc)
    (hu : P.underlying ty = some d) (hd : d.isRow = true) (hi : (P.info? ty).map (·.size) = some X.size)
    (h : wpList P ops Q rest (a.put op.dst (.agg X)) w) : wpList P ops Q (op :: rest) a w := by
  refine wpList_load_partw hw ty x ho b 0 X.toList hx (range_all hg) d hu hd (by rw [Array.length_toList]; exact hi) ?_
  rw [Array.toArray_toList]
  exact h
theorem load_all {P : Program} {w : World} {b : Nat} {X : Array Value} {T : TypeId} {f : Nat × Nat} (ty : TypeId) (hg : w.heap[b]? = some (.cells X T f)) (d : TypeDesc)
    (hu : P.underlying ty = some d) (hd : d.isRow = true) (hi : (P.info? ty).map (·.size) = some X.size) : Sem.run P (loadVar ty ⟨b, 0, none⟩) w = .ok (.agg X) w := by
  have h4 := run_loadVar_mid (P := P) w b 0 ty X.toList d (range_all hg) hu hd (by rw [Array.length_toList]; exact hi)
  rw [Array.toArray_toList] at h4
  exact h4
theorem kUpon_load_all {P : Program} {a : Act} {o : Oper} {u : World} {K : Value → World → Prop} (ty : TypeId) (x : Operand) (ho : o.op = .load ty x) (b : Nat) (X : Array Value) (T : TypeId) (f : Nat × Nat) (hx : a.eval x = .pointer (some ⟨b, 0, none⟩)) (hg : u.heap[b]? = some (.cells X T f)) (d : TypeDesc)
    (hu : P.underlying ty = some d) (hd : d.isRow = true) (hi : (P.info? ty).map (·.size) = some X.size) (h : K (.agg X) u) : kUpon P K ((execOp a.eval o).run P u) :=
  kUpon_load_mid ty x ho b 0 _ hx (load_all ty hg d hu hd hi) h
theorem kUpon_store_all {P : Program} {a : Act} {o : Oper} {u : World} {K : Value → World → Prop} (ty : TypeId) (x y : Operand) (ho : o.op = .store ty x y) (b : Nat) (X Y : Array Value) (T : TypeId) (hx : a.eval x = .pointer (some ⟨b, 0, none⟩)) (hy : a.eval y = .agg X)
    (hg : u.heap[b]? = some (.cells Y T (0, 0))) (hl : X.size = Y.size) (hi : (P.info? ty).map (·.size) = some X.size) (h1 : X.all (·.oneCell') = true)
    (h : ∀ w', w'.heap[b]? = some (.cells X T (0, 0)) → u.grownBy w' (some b) → K undef w') : kUpon P K ((execOp a.eval o).run P u) :=
  kUpon_store_mid ty x y ho b 0 X hx hy (by rw [hl]; exact there_all hg) hi h1 (h _ (set_all hg hl) (grown_setCells _ _ _))
/-- A builtin append, once its run is known. -/
theorem kUpon_append {P : Program} {a : Act} {o : Oper} {u u' : World} {K : Value → World → Prop} {v' : Value} (sT : TypeId) (s x : Operand) (ho : o.op = .call { callee := .builtin .append, args := #[s, x], argTypes := #[sT, sT] })
    (hrun : (Builtin.append_ #[sT, sT] o.type #[a.eval s, a.eval x]).run P u = .ok v' u') (h : K v' u') : kUpon P K ((execOp a.eval o).run P u) := by
  have e : (execOp a.eval o).run P u = .ok (.value v') u' := by
    simp [execOp, ho, resolve, invoke, builtin, hrun, Result.andThen]
  rw [e]
  exact h
theorem wpList_append_at {P : Program} {w w' : World} {ops : Array Oper} {rest : List Oper} {o : Oper} {a : Act} {Q : Exit → Act → World → Prop} {v' : Value} (hgd : o.guard = none) (sT : TypeId) (s x : Operand)
    (ho : o.op = .call { callee := .builtin .append, args := #[s, x], argTypes := #[sT, sT] })
    (hrun : (Builtin.append_ #[sT, sT] o.type #[a.eval s, a.eval x]).run P w = .ok v' w') (h : wpList P ops Q rest (a.put o.dst v') w') : wpList P ops Q (o :: rest) a w := by
  refine wpList_plain hgd fun K hK => ?_
  unfold Oper.wp
  simp [execOp, ho, resolve, invoke, builtin, hrun, Result.andThen]
  exact hK _ _ h
end Go.Proofs.YtifepgigkmhdaaaDoor.Rw
/- Structs and slices of one element built of parts that are themselves rows. For any program. -/
namespace Go.Proofs.YtifepgigkmhdaaaDoor.Rb1
set_option linter.unusedVariables false
set_option linter.unusedSimpArgs false
open Go.Proofs.YtifepgigkmhdaaaDoor.Rk
/-- A row laid into a row. -/
def spl (X : List Value) (o : Nat) (V : List Value) : List Value := X.take o ++ V ++ X.drop (o + V.length)
theorem spl_length (X V : List Value) (o : Nat) (h : o + V.length ≤ X.length) : (spl X o V).length = X.length := by
  simp [spl]; omega
theorem fold_put : ∀ (V : List Value) (k o : Nat) (X : List Value), o + k + V.length ≤ X.length →
    (V.zipIdx k).foldl (fun (cs : Array Value) (x : Value × Nat) => cs.setIfInBounds (o + x.2) x.1) X.toArray = (spl X (o + k) V).toArray
  | [], k, o, X, _ => by simp [spl]
  | v :: V, k, o, X, h => by
    simp only [List.length_cons] at h
    rw [List.zipIdx_cons, List.foldl_cons, List.setIfInBounds_toArray]
    have ih := fold_put V (k + 1) o (X.set (o + k) v) (by rw [List.length_set]; omega)
    rw [ih]
    congr 1
    unfold spl
    rw [List.set_eq_take_append_cons_drop, if_pos (by omega)]
    have hA : (X.take (o + k)).length = o + k := by rw [List.length_take]; omega
    have e1 : (X.take (o + k) ++ v :: X.drop (o + k + 1)).take (o + (k + 1)) = X.take (o + k) ++ [v] := by
      rw [List.take_append, hA, List.take_of_length_le (by omega), show o + (k + 1) - (o + k) = 1 by omega]; rfl
    have e2 : (X.take (o + k) ++ v :: X.drop (o + k + 1)).drop (o + (k + 1) + V.length) = X.drop (o + k + (V.length + 1)) := by
      rw [List.drop_append, hA, List.drop_eq_nil_of_le (by omega), show o + (k + 1) + V.length - (o + k) = V.length + 1 by omega, List.drop_succ_cons, List.drop_drop, List.nil_append]
      congr 1; omega
    rw [e1, e2]
    simp
theorem fill_nil (place : Nat → Option (Nat × Nat)) (X : List Value) : Instr.fill place X.toArray [] = some X.toArray := rfl
theorem fill_step (place : Nat → Option (Nat × Nat)) (X V : List Value) (i off size : Nat) (v : Value) (rest : List (Nat × Value)) (hp : place i = some (off, size)) (hv : v.cells = V.toArray) (hs : V.length = size) (hl : off + size ≤ X.length) :
    Instr.fill place X.toArray ((i, v) :: rest) = Instr.fill place (spl X off V).toArray rest := by
  subst hs
  rw [Instr.fill, hp]
  simp only [hv]
  rw [if_neg (by simp; omega)]
  congr 1
  have := fold_put V 0 off X (by omega)
  rw [Nat.add_zero] at this
  rw [← this]
  rw [← Array.foldl_toList, Array.toList_zipIdx]
section
variable {P : Program}
/-- What a struct's parts come to. -/
theorem built_struct (t : TypeId) (parts : List (Nat × Value)) (z : Value) (fs : Array Field) (pl : List (Nat × Nat)) (X : List Value) (hz : (P.info? t).bind (·.zero) = some z) (hu : P.underlying t = some (.struct fs)) (hp : fs.toList.mapM (fun f => (P.info? f.type).map fun i => (f.offset, i.size)) = some pl)
    (hX : z.cells = X.toArray) (cs : Array Value) (hf : Instr.fill (pl.toArray[·]?) X.toArray parts = some cs) : P.built t parts = some cs := by
  obtain ⟨it, hi, hz'⟩ := Option.bind_eq_some_iff.1 hz
  simp only [Program.built, hi, hu, hz', hp, hX]
  exact hf
theorem run_built (w : World) (t : TypeId) (parts : Array (Nat × Value)) (cells : Array Value) (h : P.built t parts.toList = some cells) : (Instr.build t parts).run P w = .ok (.agg cells) w := run_build w t parts cells h
/-- A slice of one element. -/
theorem run_slice_one (w : World) (t e : TypeId) (v : Value) (V : List Value) (ie : TypeInfo) (z : Value) (n : Nat) (hu : P.underlying t = some (.slice e)) (hie : P.info? e = some ie) (hz : ie.zero = some z) (hn : ie.size = n) (hpos : 0 < n) (hmax : n ≤ 1000) (hv : v.cells = V.toArray) (hl : V.length = n) :
    (Instr.buildSlice t 1 #[(0, v)]).run P w = .ok (.slice (some ⟨w.heap.size, 0, none⟩) 1 1) (w.alloc (.cells V.toArray e)) := by
  subst hn
  refine run_buildSlice w t e 1 #[(0, v)] V.toArray ie z hu hie hz (by omega) (by omega) ?_
  have e1 : ((Array.range (1 * ie.size)).map (z.cells[· % z.cells.size]!)) = (((Array.range (1 * ie.size)).map (z.cells[· % z.cells.size]!)).toList).toArray := (Array.toArray_toList).symm
  rw [e1]
  rw [fill_step _ _ V 0 (0 * ie.size) ie.size v [] rfl hv hl (by simp)]
  rw [fill_nil]
  congr 1
  simp [spl, hl]
theorem parts_list {a : Act} {parts : Array (Nat × Operand)} {vals : List (Nat × Value)} (hv : (parts.toList.map fun x => (x.1, a.eval x.2)) = vals) : (parts.map fun (i, x) => (i, a.eval x)) = vals.toArray := by
  apply Array.toList_inj.1
  rw [Array.toList_map, ← hv]
theorem kUpon_build_to {a : Act} {o : Oper} {u : World} {K : Value → World → Prop} (t : TypeId) (parts : Array (Nat × Operand)) (ho : o.op = .build t parts) (vals : List (Nat × Value)) (hv : (parts.toList.map fun x => (x.1, a.eval x.2)) = vals) (cs : Array Value) (hr : P.built t vals = some cs) (h : K (.agg cs) u) : kUpon P K ((execOp a.eval o).run P u) := by
  have hv := parts_list hv
  have e : (execOp a.eval o).run P u = .ok (.value (.agg cs)) u := by
    unfold execOp
    simp only [ho]
    simp only [Sem.run_bind, Sem.run_pure, hv]
    rw [run_build u t _ cs (by simpa using hr)]
    rfl
  rw [e]
  exact h
theorem kUpon_slice_to {a : Act} {o : Oper} {u : World} {K : Value → World → Prop} (t : TypeId) (len : Nat) (parts : Array (Nat × Operand)) (ho : o.op = .buildSlice t len parts) (vals : List (Nat × Value)) (hv : (parts.toList.map fun x => (x.1, a.eval x.2)) = vals) (v : Value) (w' : World) (hr : Sem.run P (Instr.buildSlice t len vals.toArray) u = .ok v w') (h : K v w') : kUpon P K ((execOp a.eval o).run P u) := by
  have hv := parts_list hv
  have e : (execOp a.eval o).run P u = .ok (.value v) w' := by
    unfold execOp
    simp only [ho]
    simp only [Sem.run_bind, Sem.run_pure, hv]
    rw [hr]
    rfl
  rw [e]
  exact h
theorem wpList_slice_to {ops : Array Oper} {rest : List Oper} {o : Oper} {a : Act} {w : World} {Q : Exit → Act → World → Prop} (hg : o.guard = none) (t : TypeId) (len : Nat) (parts : Array (Nat × Operand)) (ho : o.op = .buildSlice t len parts)
    (vals : List (Nat × Value)) (hv : (parts.toList.map fun x => (x.1, a.eval x.2)) = vals) (v : Value) (w' : World) (hr : Sem.run P (Instr.buildSlice t len vals.toArray) w = .ok v w')
    (h : wpList P ops Q rest (a.put o.dst v) w') : wpList P ops Q (o :: rest) a w := by
  have hv := parts_list hv
  refine wpList_plain hg fun K hK => ?_
  unfold Oper.wp
  have e : (execOp a.eval o).run P w = .ok (.value v) w' := by
    unfold execOp
    simp only [ho]
    simp only [Sem.run_bind, Sem.run_pure, hv]
    rw [hr]
    rfl
  rw [e]
  exact hK _ _ h
theorem wpList_build_at {ops : Array Oper} {rest : List Oper} {o : Oper} {a : Act} {w : World} {Q : Exit → Act → World → Prop} (hg : o.guard = none) (t : TypeId) (parts : Array (Nat × Operand)) (ho : o.op = .build t parts)
    (vals : List (Nat × Value)) (hv : (parts.toList.map fun x => (x.1, a.eval x.2)) = vals) (cs : Array Value) (hr : P.built t vals = some cs)
    (h : wpList P ops Q rest (a.put o.dst (.agg cs)) w) : wpList P ops Q (o :: rest) a w := by
  have hv := parts_list hv
  refine wpList_plain hg fun K hK => ?_
  unfold Oper.wp
  have e : (execOp a.eval o).run P w = .ok (.value (.agg cs)) w := by
    unfold execOp
    simp only [ho]
    simp only [Sem.run_bind, Sem.run_pure, hv]
    rw [run_build w t _ cs (by simpa using hr)]
    rfl
  rw [e]
  exact hK _ _ h
end
end Go.Proofs.YtifepgigkmhdaaaDoor.Rb1
/- Blocks built, and laid into a slice of one. -/
namespace Go.Proofs.YtifepgigkmhdaaaDoor.Kg
set_option linter.unusedVariables false
set_option linter.unusedSimpArgs false
set_option maxRecDepth 100000
open Go.ChangeShapes Go.WideShapes Go.ChangeAt Go.RowKit
open Go.Proofs.YtifepgigkmhdaaaDoor.Wu Go.Proofs.YtifepgigkmhdaaaDoor.Sm Go.Proofs.YtifepgigkmhdaaaDoor.Sh Go.Proofs.YtifepgigkmhdaaaDoor.Ba Go.Proofs.YtifepgigkmhdaaaDoor.Bp Go.Proofs.YtifepgigkmhdaaaDoor.Ka Go.Proofs.YtifepgigkmhdaaaDoor.Kb Go.Proofs.YtifepgigkmhdaaaDoor.Kc Go.Proofs.YtifepgigkmhdaaaDoor.Kd Go.Proofs.YtifepgigkmhdaaaDoor.Rb1
theorem fill_blk (q : IntKind) (x : Nat) (s : List Nat) (hs : s.length = 32) : Instr.fill (([(0, 1), (1, 32)] : List (Nat × Nat)).toArray[·]?) (blkC q ⟨0, zeros 32⟩).toArray [(0, .int q (x : Int)), (1, .agg (u8s s))] = some (blkC q ⟨x, s⟩).toArray := by
  have h0 : (blkC q ⟨0, zeros 32⟩).length = 33 := by simp [blkC, b8_length, zeros_length]
  rw [fill_step _ _ [.int q (x : Int)] 0 0 1 _ _ rfl rfl rfl (by omega)]
  have h1 : (spl (blkC q ⟨0, zeros 32⟩) 0 [.int q (x : Int)]).length = 33 := by rw [spl_length _ _ _ (by simp; omega)]; exact h0
  rw [fill_step _ _ (b8 s) 1 1 32 _ _ rfl (by rw [← u8s_b8]; rfl) (by rw [b8_length, hs]) (by omega), fill_nil]
  congr 2
  simp [spl, blkC, b8_length, hs, zeros_length]
theorem zero_blk : (Tryd.prog.info? 81).bind (·.zero) = some (blkV .u32 ⟨0, zeros 32⟩) := by kernel_rfl
theorem zero_ref : (Tryd.prog.info? 132).bind (·.zero) = some (blkV .i64 ⟨0, zeros 32⟩) := by kernel_rfl
theorem built_blk (x : Nat) (s : List Nat) (hs : s.length = 32) : Tryd.prog.built 81 [(0, .int .u32 (x : Int)), (1, .agg (u8s s))] = some (blkC .u32 ⟨x, s⟩).toArray :=
  built_struct 81 _ _ _ [(0, 1), (1, 32)] (blkC .u32 ⟨0, zeros 32⟩) zero_blk Tryd.underlying81 (by kernel_rfl) rfl _ (fill_blk .u32 x s hs)
theorem built_ref (x : Nat) (s : List Nat) (hs : s.length = 32) : Tryd.prog.built 132 [(0, .int .i64 (x : Int)), (1, .agg (u8s s))] = some (blkC .i64 ⟨x, s⟩).toArray :=
  built_struct 132 _ _ _ [(0, 1), (1, 32)] (blkC .i64 ⟨0, zeros 32⟩) zero_ref Tryd.underlying132 (by kernel_rfl) rfl _ (fill_blk .i64 x s hs)
theorem one_blk (u : World) (b : Blk) (hb : b.ok) : (Instr.buildSlice 47 1 #[(0, blkV .u32 b)]).run Tryd.prog u = .ok (.slice (some ⟨u.heap.size, 0, none⟩) 1 1) (u.alloc (.cells (blkC .u32 b).toArray 81)) := by
  obtain ⟨i0, hi0, hz0, hz1, hz2⟩ := info_parts info_blk
  exact run_slice_one u 47 81 (blkV .u32 b) (blkC .u32 b) i0 _ 33 Tryd.underlying47 hi0 hz0 hz1 (by omega) (by omega) rfl (blkC_length hb)
theorem one_ref (u : World) (b : Blk) (hb : b.ok) : (Instr.buildSlice 54 1 #[(0, blkV .i64 b)]).run Tryd.prog u = .ok (.slice (some ⟨u.heap.size, 0, none⟩) 1 1) (u.alloc (.cells (blkC .i64 b).toArray 132)) := by
  obtain ⟨i0, hi0, hz0, hz1, hz2⟩ := info_parts info_ref
  exact run_slice_one u 54 132 (blkV .i64 b) (blkC .i64 b) i0 _ 33 Tryd.underlying54 hi0 hz0 hz1 (by omega) (by omega) rfl (blkC_length hb)
end Go.Proofs.YtifepgigkmhdaaaDoor.Kg
/- block.Signature's Check. -/
namespace Go.Proofs.YtifepgigkmhdaaaDoor.Kh
set_option linter.unusedVariables false
set_option linter.unusedSimpArgs false
set_option maxRecDepth 100000
open Go.ChangeShapes Go.WideShapes Go.ChangeAt Go.RowKit
open Go.Proofs.YtifepgigkmhdaaaDoor.Wu Go.Proofs.YtifepgigkmhdaaaDoor.Sm Go.Proofs.YtifepgigkmhdaaaDoor.Sh Go.Proofs.YtifepgigkmhdaaaDoor.Ba Go.Proofs.YtifepgigkmhdaaaDoor.Bp Go.Proofs.YtifepgigkmhdaaaDoor.Ka Go.Proofs.YtifepgigkmhdaaaDoor.Kb Go.Proofs.YtifepgigkmhdaaaDoor.Kc Go.Proofs.YtifepgigkmhdaaaDoor.Kd Go.Proofs.YtifepgigkmhdaaaDoor.Ke Go.Proofs.YtifepgigkmhdaaaDoor.Rk Go.Proofs.YtifepgigkmhdaaaDoor.Rw Go.Proofs.YtifepgigkmhdaaaDoor.Rb1 Go.Proofs.YtifepgigkmhdaaaDoor.Kg
open Go.Proofs.YtifepgigkmhdaaaDoor.Su (cutL Cnt)
attribute [local go_sem] kUpon_value kUpon_skip kUpon_enter
/-- Nothing counts behind the cut. -/
def Blk.clean (k : Nat) (b : Blk) : Prop := b.s = cutL k b.s
instance (k : Nat) (b : Blk) : Decidable (Blk.clean k b) := by unfold Blk.clean; infer_instance
/-- Why these can't be a file's sums. -/
def checkE (sz cut len : Int) (bs : List Blk) : Int := if fitsE sz cut len ≠ 0 then fitsE sz cut len else if (bs.length : Int) ≠ cntZ len sz then 31 else if ∀ b ∈ bs, Blk.clean cut.toNat b then 0 else 31
theorem check_bad (w : World) (sz cut len : Int) (v : Value) (bs : List Blk) (hv1 : v.oneCell' = true) (hl : len ≤ 9223372036854775807) (h : fitsE sz cut len ≠ 0) :
    Calls Tryd.prog 26 #[sigV sz cut len v] w fun e w' => e = .returned (.int .i64 (checkE sz cut len bs)) ∧ Below w.heap.size w w' := by
  unfold checkE
  rw [if_pos h]
  have HC := hide (fits_c (w.alloc (.cells #[.int .i64 sz, .int .i64 cut, .int .i64 len, v] 49)) sz cut len v hv1 hl)
  have HB := hide (below_new w (.cells #[.int .i64 sz, .int .i64 cut, .int .i64 len, v] 49))
  have hb : (fitsE sz cut len != 0) = true := by simpa using h
  generalize fitsE sz cut len = z at *
  clear h hl
  unfold sigV at HC ⊢
  go_enter Tryd.func26, Tryd.ntmps26
  go_wp2_with fail
  generalize (w.alloc (.cells #[.int .i64 sz, .int .i64 cut, .int .i64 len, v] 49)) = w1 at *
  refine HC.out.mono ?_
  rintro e w2 ⟨rfl, hb2⟩
  have HB2 := hide (keepB hb2 (Nat.le_refl _) HB.out)
  clear hb2 HB HC
  go_wp2
  go_ret
  exact ⟨rfl, HB2.out⟩
theorem check_len (w : World) (sz cut len : Int) (a : Option Addr) (m c : Nat) (bs : List Blk) (hm : m = bs.length) (hl : len ≤ 9223372036854775807) (hmm : m ≤ 9223372036854775807) (h : fitsE sz cut len = 0) (hn : (m : Int) ≠ cntZ len sz) :
    Calls Tryd.prog 26 #[sigV sz cut len (.slice a m c)] w fun e w' => e = .returned (.int .i64 (checkE sz cut len bs)) ∧ Below w.heap.size w w' := by
  unfold checkE
  rw [if_neg (by rw [h]; simp), if_pos (by rw [← hm]; exact hn)]
  clear hm
  have HC := hide (fits_c (w.alloc (.cells #[.int .i64 sz, .int .i64 cut, .int .i64 len, .slice a m c] 49)) sz cut len (.slice a m c) rfl hl)
  have HN := hide (fun u : World => count_c u len sz hl)
  have HB := hide (below_new w (.cells #[.int .i64 sz, .int .i64 cut, .int .i64 len, .slice a m c] 49))
  have HS := hide (heap_last w (.cells #[.int .i64 sz, .int .i64 cut, .int .i64 len, .slice a m c] 49))
  rw [h] at HC
  generalize cntZ len sz = n at *
  have e1 : ((m : Int) != n) = true := by simpa using hn
  clear h hl hn
  unfold sigV at HC ⊢
  go_enter Tryd.func26, Tryd.ntmps26
  go_wp2_with fail
  generalize (w.alloc (.cells #[.int .i64 sz, .int .i64 cut, .int .i64 len, .slice a m c] 49)) = w1 at *
  refine HC.out.mono ?_
  rintro e w2 ⟨rfl, hb2⟩
  have HB2 := hide (keepB hb2 (Nat.le_refl _) HB.out)
  have HS2 := hide (below_blk hb2 (heap_lt HS.out) HS.out)
  clear hb2 HB HC HS
  go_wp2_with fail
  refine wp_region_keep (fun u => u.heap[w.heap.size]? = some (.cells #[.int .i64 sz, .int .i64 cut, .int .i64 len, .slice a m c] 49 (0, 0)) ∧ Below w.heap.size w u) (by kernel_rfl) (by kernel_rfl) ⟨HS2.out, HB2.out.drew⟩ ?_
  repeat (first
    | (refine keep_step (v := ?_) (by rfl) (fun u K hS hK => ?_) ?_
       rotate_left
       · obtain ⟨c0, c1, c2, c3⟩ := Sig4.cells (T := 49) hS.1
         (go_simp; first
           | (go_at_call 60; refine (HN.out _).mono ?_; rintro e u2 ⟨rfl, rfl⟩; exact hK _ hS)
           | (with_reducible exact hK _ hS))
       simp only [Act.put, List.setIfInBounds_toArray, List.set_cons_zero, List.set_cons_succ]))
  refine keep_nil (fun w3 hS3 => ?_)
  have HB3 := hide hS3.2
  clear hS3
  go_wp2
  go_ret
  exact ⟨rfl, HB3.out⟩
theorem built_w (x : Nat) : Tryd.prog.built 81 [(0, .int .u32 (x : Int))] = some (blkC .u32 ⟨x, zeros 32⟩).toArray := by
  refine built_struct 81 _ _ _ [(0, 1), (1, 32)] (blkC .u32 ⟨0, zeros 32⟩) zero_blk Tryd.underlying81 (by kernel_rfl) rfl _ ?_
  have h0 : (blkC .u32 ⟨0, zeros 32⟩).length = 33 := by simp [blkC, b8_length, zeros_length]
  rw [fill_step _ _ [.int .u32 (x : Int)] 0 0 1 _ _ rfl rfl rfl (by omega), fill_nil]
  rfl
theorem sliceAllAt (u : World) (B o : Nat) :
    Sem.run Tryd.prog (Instr.sliceAt 79 (.pointer (some ⟨B, o, none⟩)) none none none) u = .ok (.slice (some ⟨B, o, none⟩) 32 32) u := by
  rw [run_sliceAt_array_all u 79 ⟨B, o, none⟩ (by rw [Sf.alenS, Sf.aelemS]; exact Tryd.underlying79), Sf.aelemS, size_u8, Sf.alenS]
  simp only [Result.andThen, slicedAt, Nat.mul_one]
  rw [if_neg (by omega), Addr.add_mid, Nat.add_zero]
theorem sliceHAt (u : World) (B o k : Nat) (hk : k ≤ 32) :
    Sem.run Tryd.prog (Instr.sliceAt 79 (.pointer (some ⟨B, o, none⟩)) none (some (.int .i64 (k : Int))) none) u = .ok (.slice (some ⟨B, o, none⟩) k 32) u := by
  rw [run_sliceAt_array_h u 79 ⟨B, o, none⟩ (by rw [Sf.alenS, Sf.aelemS]; exact Tryd.underlying79) .i64 _ (by omega) (by rw [Sf.alenS]; omega), Sf.aelemS, size_u8, Sf.alenS]
  simp only [Result.andThen, slicedAt, Int.toNat_natCast, Nat.mul_one]
  rw [if_neg (by omega), Addr.add_mid]
  simp
theorem cut_row (q : IntKind) (k x : Nat) (s : List Nat) (hk : k ≤ 32) (hs : s.length = 32) : ((blkC q ⟨x, zeros 32⟩).toArray.toList.take 1 ++ (b8 (s.take k) ++ (blkC q ⟨x, zeros 32⟩).toArray.toList.drop (1 + (b8 (s.take k)).length))).toArray = (blkC q ⟨x, cutL k s⟩).toArray := by
  have h1 : (b8 (s.take k)).length = k := by rw [b8_length, List.length_take, hs, Nat.min_eq_left hk]
  have h2 : (b8 (zeros 32)).drop k = b8 (zeros (32 - k)) := by unfold b8 zeros; rw [← List.map_drop, List.drop_replicate]
  have h3 : b8 (cutL k s) = b8 (s.take k) ++ b8 (zeros (32 - k)) := by unfold cutL b8; rw [List.map_append]; rfl
  have h4 : (blkC q ⟨x, zeros 32⟩).toArray.toList = .int q (x : Int) :: b8 (zeros 32) := rfl
  have h5 : blkC q ⟨x, cutL k s⟩ = .int q (x : Int) :: b8 (cutL k s) := rfl
  rw [h1, h4, h5, h3, Nat.add_comm 1 k, List.drop_succ_cons, h2, List.take_succ_cons, List.take_zero]
  simp only [List.cons_append, List.nil_append]
end Go.Proofs.YtifepgigkmhdaaaDoor.Kh
/- block.Signature's Check: its loop. -/
namespace Go.Proofs.YtifepgigkmhdaaaDoor.Ki
set_option linter.unusedVariables false
set_option linter.unusedSimpArgs false
set_option maxRecDepth 100000
open Go.ChangeShapes Go.WideShapes Go.ChangeAt Go.RowKit
open Go.Proofs.YtifepgigkmhdaaaDoor.Wu Go.Proofs.YtifepgigkmhdaaaDoor.Sm Go.Proofs.YtifepgigkmhdaaaDoor.Sh Go.Proofs.YtifepgigkmhdaaaDoor.Ba Go.Proofs.YtifepgigkmhdaaaDoor.Bp Go.Proofs.YtifepgigkmhdaaaDoor.Ka Go.Proofs.YtifepgigkmhdaaaDoor.Kb Go.Proofs.YtifepgigkmhdaaaDoor.Kc Go.Proofs.YtifepgigkmhdaaaDoor.Kd Go.Proofs.YtifepgigkmhdaaaDoor.Ke Go.Proofs.YtifepgigkmhdaaaDoor.Rk Go.Proofs.YtifepgigkmhdaaaDoor.Rw Go.Proofs.YtifepgigkmhdaaaDoor.Rb1 Go.Proofs.YtifepgigkmhdaaaDoor.Kg Go.Proofs.YtifepgigkmhdaaaDoor.Kh
open Go.Proofs.YtifepgigkmhdaaaDoor.Su (cutL Cnt)
attribute [local go_sem] kUpon_value kUpon_skip kUpon_enter
set_option maxHeartbeats 3200000 in
theorem check_full (w : World) (sz len : Int) (k : Nat) (a : Option Addr) (m c : Nat) (bs : List Blk) (hb : IsBks .u32 w (.slice a m c) bs) (hml : m = bs.length) (h : fitsE sz k len = 0) (hn : cntZ len sz = (m : Int)) :
    Calls Tryd.prog 26 #[sigV sz k len (.slice a m c)] w fun e w' => e = .returned (.int .i64 (checkE sz k len bs)) ∧ Below w.heap.size w w' := by
  have hz := fitsE_zero h
  have hk : k ≤ 32 := by omega
  have hl : len ≤ 9223372036854775807 := by omega
  have hm4 : m ≤ 4096 := by omega
  unfold checkE
  rw [if_neg (by rw [h]; simp), if_neg (by rw [← hml, hn]; simp)]
  have HC := hide (fits_c (w.alloc (.cells #[.int .i64 sz, .int .i64 (k : Int), .int .i64 len, .slice a m c] 49)) sz k len (.slice a m c) rfl hl)
  have HN := hide (fun u : World => count_c u len sz hl)
  have HB := hide (below_new w (.cells #[.int .i64 sz, .int .i64 (k : Int), .int .i64 len, .slice a m c] 49))
  have HS := hide (heap_last w (.cells #[.int .i64 sz, .int .i64 (k : Int), .int .i64 len, .slice a m c] 49))
  rw [h] at HC
  rw [hn] at HN
  obtain ⟨a', c', g, off, hv, hmc, hcm, ha, hat⟩ := hb.at
  rw [← hml] at hv hmc ha
  injection hv with h1 h2 h3
  subst h1 h3
  have Hat := hide hat
  have HML := hide hml
  rw [Int.toNat_natCast]
  obtain ⟨R, hR⟩ : ∃ R : Int, R = if ∀ b ∈ bs, Blk.clean k b then 0 else 31 := ⟨_, rfl⟩
  rw [← hR]
  have HRv := hide hR
  clear hR
  clear h hz hn hat hml h2 hb
  unfold sigV at HC ⊢
  go_enter Tryd.func26, Tryd.ntmps26
  go_wp2_with fail
  generalize (w.alloc (.cells #[.int .i64 sz, .int .i64 (k : Int), .int .i64 len, .slice a m c] 49)) = w1 at *
  refine HC.out.mono ?_
  rintro e w2 ⟨rfl, hb2⟩
  have HB2 := hide (keepB hb2 (Nat.le_refl _) HB.out)
  have HS2 := hide (below_blk hb2 (heap_lt HS.out) HS.out)
  clear hb2 HB HC HS
  go_wp2_with fail
  refine wp_region_keep (fun u => u.heap[w.heap.size]? = some (.cells #[.int .i64 sz, .int .i64 (k : Int), .int .i64 len, .slice a m c] 49 (0, 0)) ∧ Below w.heap.size w u) (by kernel_rfl) (by kernel_rfl) ⟨HS2.out, HB2.out.drew⟩ ?_
  repeat (first
    | (refine keep_step (v := ?_) (by rfl) (fun u K hS hK => ?_) ?_
       rotate_left
       · obtain ⟨c0, c1, c2, c3⟩ := Sig4.cells (T := 49) hS.1
         (go_simp; first
           | (go_at_call 60; refine (HN.out _).mono ?_; rintro e u2 ⟨rfl, rfl⟩; exact hK _ hS)
           | (with_reducible exact hK _ hS))
       simp only [Act.put, List.setIfInBounds_toArray, List.set_cons_zero, List.set_cons_succ]))
  refine keep_nil (fun w3 hS3 => ?_)
  have HS3 := hide hS3
  clear hS3 HB2 HS2 HN
  obtain ⟨c0, c1, c2, c3⟩ := Sig4.cells (T := 49) HS3.out.1
  go_wp2_with fail
  clear c0 c1 c2 c3
  go_loopw [24] (fun j wr => ∃ i, j = .int .i64 ((i : Nat) : Int) ∧ i ≤ m ∧ (∀ b ∈ bs.take i, Blk.clean k b) ∧ wr.heap[w.heap.size]? = some (.cells #[.int .i64 sz, .int .i64 (k : Int), .int .i64 len, .slice a m c] 49 (0, 0)) ∧ Below w.heap.size w wr) (fun j _ => m - (intOf j).toNat)
  case atStart => exact ⟨0, rfl, Nat.zero_le _, by simp, HS3.out.1, HS3.out.2⟩
  case round =>
    clear HS3
    obtain ⟨i, rfl, hi, hcl, hS, hB⟩ := hrel
    have HS := hide hS
    have HB := hide hB
    have HCl := hide hcl
    clear hS hB hcl
    by_cases hlt : i < m
    · obtain ⟨b, hb⟩ : ∃ b, bs[i]? = some b := ⟨bs[i]'(by rw [← HML.out]; exact hlt), by rw [List.getElem?_eq_getElem]⟩
      obtain ⟨hbok, hr0⟩ := Hat.out i b hb
      have HR := hide (fun u (hu : Below w.heap.size w u) => range_below hr0 hu)
      have ha1 := ha (by omega)
      subst ha1
      have Hb := hide hb
      clear hr0 hb
      have d1 : decide ((i : Int) < (m : Int)) = true := by simpa using hlt
      have i1 : (0 : Int) ≤ (i : Int) := by omega
      have i2 : (i : Int) < (m : Int) := by omega
      have hsz : (blkC .u32 b).length = 33 := blkC_length hbok
      go_wp2_with (first
        | (refine wpList_load_part rfl 81 (.tmp 26) rfl g (off + i * 33) (blkC .u32 b) rfl (HR.out _ HB.out) _ Tryd.underlying81 rfl (by rw [hsz]; kernel_rfl) ?_)
        | (refine wpList_store_all rfl 81 (.tmp 5) (.tmp 27) rfl wr.heap.size (blkC .u32 b).toArray _ 81 rfl rfl (heap_last _ _) (by rw [List.size_toArray, hsz]; rfl) (by rw [List.size_toArray, hsz]; kernel_rfl) (all_oneCell_toArray (blkC_one _ _)) ?_))
      intro w5 H5 HG5
      refine of_hid ?_
      have HBr := hide (keepB (below_new wr (.cells (blkC .u32 ⟨0, zeros 32⟩).toArray 81)) (Nat.le_refl _) HB.out)
      have hwr := HB.out.size
      have hlS := heap_lt HS.out
      have HS5 := hide (keepG HG5.out (by omega) (heap_old HS.out _))
      have HB5 := hide (belowG HBr.out HG5.out hwr HBr.out.size)
      have hl5 := heap_lt H5.out
      clear HS HB HBr HG5 HR
      have c0 : w5.cell? ⟨wr.heap.size, 0, none⟩ = some (.int .u32 (b.w : Int)) := blk_cell H5.out rfl
      generalize wr.heap.size = B at *
      have hz33 : (blkC .u32 ⟨b.w, zeros 32⟩).length = 33 := by simp [blkC, b8_length, zeros_length]
      go_wp2_with (first
        | (refine wpList_build_at rfl 81 _ rfl [(0, .int .u32 (b.w : Int))] rfl _ (built_w b.w) ?_)
        | (refine wpList_store_all rfl 81 (.tmp 6) (.tmp 30) rfl w5.heap.size (blkC .u32 ⟨b.w, zeros 32⟩).toArray _ 81 rfl rfl (heap_last _ _) (by rw [List.size_toArray, hz33]; rfl) (by rw [List.size_toArray, hz33]; kernel_rfl) (all_oneCell_toArray (blkC_one _ _)) ?_))
      intro w6 H6 HG6
      refine of_hid ?_
      have HBr := hide (keepB (below_new w5 (.cells (blkC .u32 ⟨0, zeros 32⟩).toArray 81)) (Nat.le_refl _) HB5.out)
      have hw5 := HB5.out.size
      have hlS5 := heap_lt HS5.out
      have HS6 := hide (keepG HG6.out (by omega) (heap_old HS5.out _))
      have H5' := hide (keepG HG6.out (by omega) (heap_old H5.out _))
      have HB6 := hide (belowG HBr.out HG6.out hw5 HBr.out.size)
      have hl6 := heap_lt H6.out
      clear HS5 HB5 HBr HG6 H5 c0
      have hCB : w5.heap.size ≠ B := by omega
      have hCw : w.heap.size ≤ w5.heap.size := hw5
      have hCS : w5.heap.size ≠ w.heap.size := by omega
      generalize w5.heap.size = C at *
      have hsa := fun v : World => sliceAllAt v B 1
      have hs0 := fun v : World => sliceHAt v C 1 k hk
      obtain ⟨c0, c1, c2, c3⟩ := Sig4.cells (T := 49) HS6.out
      go_wp2_with fail
      go_still_tail 6, (by kernel_rfl)
      have hbl : (b8 (b.s.take k)).length = k := by rw [b8_length, List.length_take, hbok.2.1, Nat.min_eq_left hk]
      refine wpList_copy_own rfl (.tmp 34) (.tmp 36) 22 22 rfl 5 Tryd.underlying22 info_u8s C 1 k 32 ⟨B, 1, none⟩ 32 32 rfl rfl (blkC .u32 ⟨b.w, zeros 32⟩).toArray 81 H6.out (b8 (b.s.take k)) ?_ ?_ ?_ (b8_one _) ?_
      · rw [hbl]; exact (Nat.min_eq_right hk).symm
      · intro j v hv
        obtain ⟨hj, rfl⟩ := b8_at hv
        rw [List.length_take, hbok.2.1] at hj
        rw [Addr.add_mid]
        show w6.drew.cell? _ = _
        refine blk_cell H5'.out ?_
        simp only [blkC, List.getElem?_toArray, Nat.add_comm 1 j, List.getElem?_cons_succ]
        unfold b8
        rw [List.getElem?_map, List.getElem?_eq_getElem (by rw [hbok.2.1]; omega)]
        simp [List.getD, List.getElem?_take_of_lt (show j < k by omega), List.getElem?_eq_getElem (show j < b.s.length by rw [hbok.2.1]; omega)]
      · rw [hbl, List.size_toArray, hz33]; omega
      rw [cut_row .u32 k b.w b.s hk hbok.2.1, hbl]
      show wpList _ _ _ _ (Act.put _ _ (goInt k)) (w6.drew.setRow C (blkC .u32 ⟨b.w, cutL k b.s⟩).toArray)
      have HS7 := hide ((setRow_other w6.drew C _ (blkC .u32 ⟨b.w, cutL k b.s⟩).toArray (fun e => hCS e.symm)).trans HS6.out)
      have H7 := hide (setRow_heap w6.drew C _ (blkC .u32 ⟨b.w, cutL k b.s⟩).toArray _ _ H6.out)
      have H57 := hide ((setRow_other w6.drew C _ (blkC .u32 ⟨b.w, cutL k b.s⟩).toArray (fun e => hCB e.symm)).trans H5'.out)
      have HB7 := hide (below_setRow (g := C) HB6.out.drew hCw (blkC .u32 ⟨b.w, cutL k b.s⟩).toArray)
      have hcok : Blk.ok ⟨b.w, cutL k b.s⟩ := ⟨hbok.1, Su.cutL_length k _ hk hbok.2.1, all8_sub hbok.2.2 k (32 - k)⟩
      have hq := fun u => blk_eq b ⟨b.w, cutL k b.s⟩ hbok hcok u
      have hc33 : (blkC .u32 ⟨b.w, cutL k b.s⟩).length = 33 := blkC_length hcok
      have hcl : decide (b = ⟨b.w, cutL k b.s⟩) = decide (Blk.clean k b) := by
        unfold Blk.clean
        cases b
        simp
      rw [hcl] at hq
      clear hsa hs0 c0 c1 c2 c3 HS6 H6 H5' HB6 hcl hbl
      generalize (w6.drew.setRow C (blkC .u32 ⟨b.w, cutL k b.s⟩).toArray) = w7 at *
      generalize (⟨b.w, cutL k b.s⟩ : Blk) = b7 at *
      have hm : Tryd.prog.eqGuardType Tryd.prog.depth 81 = false := by kernel_rfl
      by_cases hclean : Blk.clean k b
      · have e1 : decide (Blk.clean k b) = true := by simpa using hclean
        have Hclean := hide hclean
        rw [e1] at hq
        clear hclean e1
        go_wp2_with (first
          | (refine wpList_load_all rfl 81 (.tmp 5) rfl B (blkC .u32 b).toArray 81 (0, 0) rfl H57.out _ Tryd.underlying81 rfl (by rw [List.size_toArray, hsz]; kernel_rfl) ?_)
          | (refine wpList_load_all rfl 81 (.tmp 6) rfl C (blkC .u32 b7).toArray 81 (0, 0) rfl H7.out _ Tryd.underlying81 rfl (by rw [List.size_toArray, hc33]; kernel_rfl) ?_))
        go_roundw
        case rel =>
          refine ⟨i + 1, by go_num, by omega, ?_, HS7.out, HB7.out⟩
          intro x hx
          rw [List.take_add_one, Hb.out] at hx
          rcases List.mem_append.1 hx with hx | hx
          · exact HCl.out x hx
          · simp at hx; rw [hx]; exact Hclean.out
        case measure => simp [intOf]; omega
      · have e1 : decide (Blk.clean k b) = false := by simpa using hclean
        have Hno : Hid ((if ∀ b ∈ bs, Blk.clean k b then (0 : Int) else 31) = 31) := hide (if_neg (fun h => hclean (h b (List.mem_of_getElem? Hb.out))))
        rw [e1] at hq
        clear hclean e1
        go_wp2_with (first
          | (refine wpList_load_all rfl 81 (.tmp 5) rfl B (blkC .u32 b).toArray 81 (0, 0) rfl H57.out _ Tryd.underlying81 rfl (by rw [List.size_toArray, hsz]; kernel_rfl) ?_)
          | (refine wpList_load_all rfl 81 (.tmp 6) rfl C (blkC .u32 b7).toArray 81 (0, 0) rfl H7.out _ Tryd.underlying81 rfl (by rw [List.size_toArray, hc33]; kernel_rfl) ?_))
        go_ret
        exact ⟨by rw [show R = 31 from HRv.out.trans Hno.out]; rfl, HB7.out⟩
    · obtain rfl : i = m := by omega
      have Hyes : Hid ((if ∀ b ∈ bs, Blk.clean k b then (0 : Int) else 31) = 0) := hide (if_pos (fun b hb => HCl.out b (by rw [List.take_of_length_le (by rw [← HML.out]; exact Nat.le_refl _)]; exact hb)))
      have d1 : decide ((i : Int) < (i : Int)) = false := by simp
      clear ha hi HCl Hat
      go_wp2
      go_ret
      exact ⟨by rw [show R = 0 from HRv.out.trans Hyes.out]; rfl, HB.out⟩
/-- Check, whatever comes. -/
theorem check_c (w : World) (sz cut len : Int) (v : Value) (bs : List Blk) (hb : IsBks .u32 w v bs) (hl : len ≤ 9223372036854775807) (hbl : bs.length ≤ 9223372036854775807) :
    Calls Tryd.prog 26 #[sigV sz cut len v] w fun e w' => e = .returned (.int .i64 (checkE sz cut len bs)) ∧ Below w.heap.size w w' := by
  obtain ⟨a, c, g, off, rfl, hmc, hcm, _⟩ := hb.at
  by_cases h : fitsE sz cut len = 0
  · have hz := fitsE_zero h
    obtain ⟨k, rfl⟩ := Int.eq_ofNat_of_zero_le (show 0 ≤ cut by omega)
    by_cases hn : cntZ len sz = (bs.length : Int)
    · exact check_full w sz len k a bs.length c bs hb rfl h hn
    · exact check_len w sz k len a bs.length c bs rfl hl hbl h (fun e => hn e.symm)
  · exact check_bad w sz cut len _ bs rfl hl h
end Go.Proofs.YtifepgigkmhdaaaDoor.Ki
/- block.Signature's Span. -/
namespace Go.Proofs.YtifepgigkmhdaaaDoor.Kj
set_option linter.unusedVariables false
set_option linter.unusedSimpArgs false
set_option maxRecDepth 100000
open Go.ChangeShapes Go.WideShapes Go.ChangeAt Go.RowKit
open Go.Proofs.YtifepgigkmhdaaaDoor.Wu Go.Proofs.YtifepgigkmhdaaaDoor.Sm Go.Proofs.YtifepgigkmhdaaaDoor.Sh Go.Proofs.YtifepgigkmhdaaaDoor.Ba Go.Proofs.YtifepgigkmhdaaaDoor.Bp Go.Proofs.YtifepgigkmhdaaaDoor.Ka Go.Proofs.YtifepgigkmhdaaaDoor.Kb Go.Proofs.YtifepgigkmhdaaaDoor.Kc Go.Proofs.YtifepgigkmhdaaaDoor.Kd Go.Proofs.YtifepgigkmhdaaaDoor.Ke Go.Proofs.YtifepgigkmhdaaaDoor.Rk Go.Proofs.YtifepgigkmhdaaaDoor.Rw Go.Proofs.YtifepgigkmhdaaaDoor.Rb1 Go.Proofs.YtifepgigkmhdaaaDoor.Kg Go.Proofs.YtifepgigkmhdaaaDoor.Kh Go.Proofs.YtifepgigkmhdaaaDoor.Ki
open Go.Proofs.YtifepgigkmhdaaaDoor.Su (cutL Cnt)
theorem Span_none (w : World) (sz cut len i : Int) (a : Option Addr) (m c : Nat) (hi : i < 0 ∨ (m : Int) ≤ i) :
    Calls Tryd.prog 33 #[sigV sz cut len (.slice a m c), .int .i64 i] w fun e w' => e = .returned (.tuple #[.int .i64 0, .int .i64 0]) ∧ Below w.heap.size w w' := by
  unfold sigV
  rcases hi with hi | hi
  · have d1 : decide (i < 0) = true := by simpa using hi
    clear hi
    go_enter Tryd.func33, Tryd.ntmps33
    go_wp2
    go_ret2
    exact ⟨rfl, below_new _ _⟩
  · have d1 : decide (i < 0) = false := by simp; omega
    have d2 : decide ((m : Int) ≤ i) = true := by simpa using hi
    clear hi
    go_enter Tryd.func33, Tryd.ntmps33
    go_wp2
    go_ret2
    exact ⟨rfl, below_new _ _⟩
theorem Span_c (w : World) (s k l i n : Nat) (a : Option Addr) (m c : Nat) (bs : List Blk) (hb : IsBks .u32 w (.slice a m c) bs) (hm : bs.length = m) (hch : checkE s k l bs = 0) (hi : i < m) (hn : min (s : Int) ((l : Int) - (i : Int) * (s : Int)) = (n : Int)) :
    Calls Tryd.prog 33 #[sigV s k l (.slice a m c), .int .i64 (i : Int)] w fun e w' => e = .returned (.tuple #[.int .i64 ((i * s : Nat) : Int), .int .i64 (n : Int)]) ∧ Below w.heap.size w w' := by
  have hf : fitsE s k l = 0 := by
    unfold checkE at hch
    split at hch
    · exact hch
    · rename_i h; simpa using h
  have hz := fitsE_zero hf
  have hmn : (m : Int) = cntZ l s := by
    unfold checkE at hch
    rw [if_neg (by simpa using hf)] at hch
    split at hch
    · cases hch
    · rename_i h; rw [← hm]; omega
  have h4 : m ≤ 4096 := by omega
  have HC := hide (check_c (w.alloc (.cells #[.int .i64 (s : Int), .int .i64 (k : Int), .int .i64 (l : Int), .slice a m c] 49)) s k l (.slice a m c) bs (hb.below (below_new _ _)) (by omega) (by omega))
  rw [hch] at HC
  have HSp := hide (fun u : World => span_c u s k l i (.slice a m c) (by omega) (by omega) (by omega) (by omega) (by omega) (by omega))
  rw [hn] at HSp
  have e0 : (i : Int) * (s : Int) = ((i * s : Nat) : Int) := by simp
  rw [e0] at HSp
  have HB := hide (below_new w (.cells #[.int .i64 (s : Int), .int .i64 (k : Int), .int .i64 (l : Int), .slice a m c] 49))
  have HS := hide (heap_last w (.cells #[.int .i64 (s : Int), .int .i64 (k : Int), .int .i64 (l : Int), .slice a m c] 49))
  obtain ⟨p, hp⟩ : ∃ p, p = i * s := ⟨_, rfl⟩
  rw [← hp] at HSp ⊢
  have d1 : decide ((i : Int) < 0) = false := by simp
  have d2 : decide ((m : Int) ≤ (i : Int)) = false := by simp; omega
  have d2' : decide (m ≤ i) = false := by simp; omega
  clear hf hz hmn hch hb hm hn hp e0 hi
  unfold sigV at HC HSp ⊢
  go_enter Tryd.func33, Tryd.ntmps33
  go_wp2_with fail
  generalize (w.alloc (.cells #[.int .i64 (s : Int), .int .i64 (k : Int), .int .i64 (l : Int), .slice a m c] 49)) = w1 at *
  refine HC.out.mono ?_
  rintro e w2 ⟨rfl, hb2⟩
  have HB2 := hide (keepB hb2 (Nat.le_refl _) HB.out)
  have HS2 := hide (below_blk hb2 (heap_lt HS.out) HS.out)
  clear hb2 HB HC HS
  obtain ⟨c0, c1, c2, c3⟩ := Sig4.cells (T := 49) HS2.out
  go_wp2_with fail
  refine (HSp.out _).mono ?_
  rintro e w3 ⟨rfl, hb3⟩
  have HB3 := hide (keepB hb3 (Nat.le_refl _) HB2.out)
  clear hb3 c0 c1 c2 c3
  go_wp2
  go_ret2
  exact ⟨rfl, HB3.out⟩
/-- What Make answers is right. -/
theorem mk_check (D : List Nat) (s k n : Nat) (l : Nat) (hf : fitsE (s : Int) (k : Int) (l : Int) = 0) (hn : cntZ l s = (n : Int)) : checkE s k l (mkB D s k n) = 0 := by
  unfold checkE
  rw [if_neg (by simpa using hf), if_neg (by rw [mkB_length, hn]; simp), if_pos]
  intro b hb
  obtain ⟨i, _, rfl⟩ := List.mem_map.1 hb
  have hz := fitsE_zero hf
  have hk : k ≤ 32 := by omega
  unfold Blk.clean blkOf
  simp only [Int.toNat_natCast]
  unfold cutL
  rw [List.take_append_of_le_length (by rw [List.length_take, sha_len]; omega), List.take_take, Nat.min_self]
end Go.Proofs.YtifepgigkmhdaaaDoor.Kj
