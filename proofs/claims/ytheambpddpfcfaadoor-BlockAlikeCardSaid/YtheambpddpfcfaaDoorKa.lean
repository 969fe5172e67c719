/- Blocks in plain numbers: how many there are, what is right of their sums; blocks as cells. -/
import Derived.Test.YtheambpddpfcfaaDoorBp
import Derived.Test.YtheambpddpfcfaaDoorWm
namespace Go.Proofs.YtheambpddpfcfaaDoor.Ka
set_option linter.unusedVariables false
set_option linter.unusedSimpArgs false
set_option maxRecDepth 100000
open Go.RowKit
open Go.Proofs.YtheambpddpfcfaaDoor.Wu Go.Proofs.YtheambpddpfcfaaDoor.Sm Go.Proofs.YtheambpddpfcfaaDoor.Sh Go.Proofs.YtheambpddpfcfaaDoor.Ba Go.Proofs.YtheambpddpfcfaaDoor.Bp
/-- How many blocks a file has. -/
def cntZ (l s : Int) : Int := if s < 1 ∨ l < 0 then 0 else if 0 < l % s then l / s + 1 else l / s
theorem cntZ_nonneg (l s : Int) : 0 ≤ cntZ l s := by
  unfold cntZ
  split
  · omega
  · rename_i h
    have : 0 ≤ l / s := Int.ediv_nonneg (by omega) (by omega)
    split <;> omega
/-- Why a file's blocks can't be such; 0: they can. -/
def fitsE (sz cut len : Int) : Int := if sz < 1 ∨ 4096 < sz ∨ cut < 0 ∨ 32 < cut ∨ len < 0 then 1 else if 4096 < cntZ len sz then 2 else 0
theorem fitsE_zero {sz cut len : Int} (h : fitsE sz cut len = 0) : 1 ≤ sz ∧ sz ≤ 4096 ∧ 0 ≤ cut ∧ cut ≤ 32 ∧ 0 ≤ len ∧ cntZ len sz ≤ 4096 ∧ len ≤ 16777216 := by
  unfold fitsE at h
  split at h
  · omega
  · split at h
    · omega
    · rename_i h1 h2
      refine ⟨by omega, by omega, by omega, by omega, by omega, by omega, ?_⟩
      have h3 : len < 16777217 ∨ 16777217 ≤ len := by omega
      rcases h3 with h3 | h3
      · omega
      · exfalso
        apply h2
        unfold cntZ
        rw [if_neg (by omega)]
        have e1 : 4096 * sz ≤ len := by omega
        have h4 : 4096 ≤ len / sz := by
          rw [Int.le_ediv_iff_mul_le (by omega)]
          omega
        have h5 : len = sz * (len / sz) + len % sz := (Int.mul_ediv_add_emod len sz).symm
        have h6 : 0 ≤ len % sz := Int.emod_nonneg _ (by omega)
        split
        · omega
        · have h7 : len % sz = 0 := by omega
          rcases Int.lt_or_le 4096 (len / sz) with h8 | h8
          · exact h8
          · have h9 : len / sz = 4096 := by omega
            rw [h9, h7] at h5
            omega
/-- A block's sums. -/
structure Blk where
  w : Nat
  s : List Nat
deriving DecidableEq
def Blk.ok (b : Blk) : Prop := b.w < 4294967296 ∧ b.s.length = 32 ∧ All8 b.s
/-- Its cells; the weak one's kind is q. -/
def blkC (q : IntKind) (b : Blk) : List Value := .int q (b.w : Int) :: b8 b.s
theorem blkC_length {q : IntKind} {b : Blk} (h : b.ok) : (blkC q b).length = 33 := by simp [blkC, b8_length, h.2.1]
theorem blkC_one (q : IntKind) (b : Blk) : ∀ v ∈ blkC q b, v.oneCell' = true := by
  intro v hv
  rcases List.mem_cons.1 hv with rfl | hv
  · rfl
  · exact b8_one _ v hv
def rowC (q : IntKind) (bs : List Blk) : List Value := bs.flatMap (blkC q)
def Oks (bs : List Blk) : Prop := ∀ b ∈ bs, b.ok
theorem rowC_length {q : IntKind} : ∀ {bs : List Blk}, Oks bs → (rowC q bs).length = bs.length * 33
  | [], _ => rfl
  | b :: bs, h => by
    have h1 := rowC_length (q := q) (bs := bs) (fun x hx => h x (List.mem_cons_of_mem _ hx))
    have h2 := blkC_length (q := q) (h b List.mem_cons_self)
    unfold rowC at h1 ⊢
    rw [List.flatMap_cons, List.length_append, h1, h2, List.length_cons]
    omega
theorem rowC_one (q : IntKind) (bs : List Blk) : ∀ v ∈ rowC q bs, v.oneCell' = true := by
  intro v hv
  obtain ⟨b, _, hb⟩ := List.mem_flatMap.1 hv
  exact blkC_one q b v hb
theorem rowC_append (q : IntKind) (bs cs : List Blk) : rowC q (bs ++ cs) = rowC q bs ++ rowC q cs := by simp [rowC]
theorem rowC_at {q : IntKind} : ∀ {bs : List Blk}, Oks bs → ∀ {i : Nat} {b : Blk}, bs[i]? = some b → ∀ j, j < 33 → (rowC q bs)[i * 33 + j]? = (blkC q b)[j]?
  | [], _, i, b, h, _, _ => by simp at h
  | c :: bs, hk, 0, b, h, j, hj => by
    simp at h
    subst h
    have := blkC_length (q := q) (hk c List.mem_cons_self)
    rw [rowC, List.flatMap_cons, Nat.zero_mul, Nat.zero_add, List.getElem?_append_left (by omega)]
  | c :: bs, hk, i + 1, b, h, j, hj => by
    have h1 := blkC_length (q := q) (hk c List.mem_cons_self)
    have ih := rowC_at (q := q) (bs := bs) (fun x hx => hk x (List.mem_cons_of_mem _ hx)) (i := i) (b := b) (by simpa using h) j hj
    rw [rowC, List.flatMap_cons, List.getElem?_append_right (by omega), h1, show (i + 1) * 33 + j - 33 = i * 33 + j by omega]
    exact ih
/-- A slice that reads as these blocks. -/
def IsBks (q : IntKind) (w : World) (v : Value) (bs : List Blk) : Prop :=
  Oks bs ∧ ∃ a cap, v = .slice a bs.length cap ∧ bs.length ≤ cap ∧ cap ≤ 9223372036854775807 ∧ ∃ g off, (0 < bs.length → a = some ⟨g, off, none⟩) ∧ w.rangeAt g off (rowC q bs)
theorem IsBks.nil (q : IntKind) (w : World) : IsBks q w (.slice none 0 0) [] := ⟨(by intro b hb; cases hb), none, 0, rfl, Nat.le_refl _, by omega, 0, 0, fun h => absurd h (by simp), fun j v hv => by simp [rowC] at hv⟩
theorem range_below {w w' : World} {g off : Nat} {cs : List Value} (h : w.rangeAt g off cs) (hb : Below w.heap.size w w') : w'.rangeAt g off cs := fun j v hv => keepC hb (Nat.le_refl _) (h j v hv)
theorem range_same {w w' : World} {g off : Nat} {cs : List Value} (h : w.rangeAt g off cs) (e : w'.heap[g]? = w.heap[g]?) : w'.rangeAt g off cs := fun j v hv => by
  rw [World.cell?_of_block (a := ⟨g, off + j, none⟩) e]; exact h j v hv
theorem IsBks.below {q : IntKind} {w w' : World} {v : Value} {bs : List Blk} (h : IsBks q w v bs) (hb : Below w.heap.size w w') : IsBks q w' v bs := by
  obtain ⟨h0, a, cap, h1, h2, h3, g, off, h4, h5⟩ := h
  exact ⟨h0, a, cap, h1, h2, h3, g, off, h4, range_below h5 hb⟩
/-- The block that stands at i. -/
theorem IsBks.at {q : IntKind} {w : World} {v : Value} {bs : List Blk} (h : IsBks q w v bs) : ∃ a cap g off, v = .slice a bs.length cap ∧ bs.length ≤ cap ∧ cap ≤ 9223372036854775807 ∧ (0 < bs.length → a = some ⟨g, off, none⟩) ∧
    ∀ i b, bs[i]? = some b → b.ok ∧ w.rangeAt g (off + i * 33) (blkC q b) := by
  obtain ⟨h0, a, cap, h1, h2, h3, g, off, h4, h5⟩ := h
  refine ⟨a, cap, g, off, h1, h2, h3, h4, fun i b hb => ⟨h0 b (List.mem_of_getElem? hb), fun j v hv => ?_⟩⟩
  have hok := h0 b (List.mem_of_getElem? hb)
  have hj : j < 33 := by rw [← blkC_length (q := q) hok]; exact (List.getElem?_eq_some_iff.1 hv).1
  have := h5 (i * 33 + j) v (by rw [rowC_at h0 hb j hj]; exact hv)
  rwa [Nat.add_assoc]
/-- A slice of blocks of the call's own. -/
def OwnBks (q : IntKind) (e : TypeId) (w : World) (N : Nat) (v : Value) (bs : List Blk) : Prop := Oks bs ∧ w.ownsRow N e 33 v bs.length (rowC q bs)
theorem OwnBks.nil (q : IntKind) (e : TypeId) (w : World) (N : Nat) : OwnBks q e w N (.slice none 0 0) [] := ⟨(by intro b hb; cases hb), World.ownsRow_nil _ _ _ _⟩
theorem OwnBks.is {q : IntKind} {e : TypeId} {w : World} {N : Nat} {v : Value} {bs : List Blk} (h : OwnBks q e w N v bs) : IsBks q w v bs := by
  obtain ⟨h0, h1, h2⟩ := h
  refine ⟨h0, ?_⟩
  rcases h2 with ⟨rfl, hn⟩ | ⟨g, cap, cur, rfl, hb, hg, hl, hm, hs, ht⟩
  · obtain rfl : bs = [] := List.length_eq_zero_iff.1 hn
    exact ⟨none, 0, rfl, Nat.le_refl _, by omega, 0, 0, fun h => absurd h (by simp), fun j v hv => by simp [rowC] at hv⟩
  · unfold maxLen at hm
    refine ⟨some ⟨g, 0, none⟩, cap, rfl, hl, by omega, g, 0, fun _ => rfl, fun j v hv => ?_⟩
    rw [Nat.zero_add]
    refine blk_cell hg ?_
    rw [← ht] at hv
    rw [List.getElem?_take] at hv
    split at hv
    · simpa using hv
    · cases hv
theorem OwnBks.own {q : IntKind} {e : TypeId} {w : World} {N : Nat} {v : Value} {bs : List Blk} (h : OwnBks q e w N v bs) : ∀ g, v.ownBlock = some g → N ≤ g ∧ g < w.heap.size := fun g hg => h.2.lt g hg
theorem OwnBks.same {q : IntKind} {e : TypeId} {w w' : World} {N : Nat} {v : Value} {bs : List Blk} (h : OwnBks q e w N v bs) (hk : ∀ g, v.ownBlock = some g → w'.heap[g]? = w.heap[g]?) : OwnBks q e w' N v bs := by
  obtain ⟨h0, h1, h2⟩ := h
  refine ⟨h0, h1, ?_⟩
  rcases h2 with h | ⟨g, cap, cur, rfl, hb, hg, r⟩
  · exact .inl h
  · exact .inr ⟨g, cap, cur, rfl, hb, (hk g rfl).trans hg, r⟩
theorem OwnBks.below {q : IntKind} {e : TypeId} {w w' : World} {N : Nat} {v : Value} {bs : List Blk} (h : OwnBks q e w N v bs) (hb : Below w.heap.size w w') : OwnBks q e w' N v bs :=
  h.same fun g hg => hb.block g (h.own g hg).2
theorem OwnBks.kept {q : IntKind} {e : TypeId} {w w' : World} {N k : Nat} {v : Value} {bs : List Blk} (h : OwnBks q e w N v bs) (hg : w.grownBy w' (some k)) (hk : v.ownBlock ≠ some k) : OwnBks q e w' N v bs :=
  h.same fun g hv => hg.block g (h.own g hv).2 (fun e => hk (by rw [hv, e]))
/-- A file's i-th block. -/
def piece (D : List Nat) (size i : Nat) : List Nat := (D.drop (i * size)).take size
def ints (L : List Nat) : List Int := L.map fun x : Nat => (x : Int)
open Go.Proofs.YtheambpddpfcfaaDoor.Wm in
/-- The weak sum as a number. -/
def wkN (L : List Nat) : Nat := (hi (ints L) * 65536 + lo (ints L)).toNat
open Go.Proofs.YtheambpddpfcfaaDoor.Wm in
theorem wkN_is (L : List Nat) : ((wkN L : Nat) : Int) = hi (ints L) * 65536 + lo (ints L) := by
  have := lo_nonneg (ints L)
  have := hi_nonneg (ints L)
  unfold wkN
  omega
open Go.Proofs.YtheambpddpfcfaaDoor.Wm in
theorem wkN_lt (L : List Nat) : wkN L < 4294967296 := by
  have := lo_lt (ints L)
  have := hi_lt (ints L)
  have := lo_nonneg (ints L)
  have := hi_nonneg (ints L)
  have := wkN_is L
  omega
theorem ints_length (L : List Nat) : (ints L).length = L.length := by simp [ints]
theorem ints_getD (L : List Nat) (i : Nat) : (ints L).getD i 0 = ((L.getD i 0 : Nat) : Int) := by
  unfold ints
  simp only [List.getD, List.getElem?_map]
  cases L[i]? <;> simp
open Go.Proofs.YtheambpddpfcfaaDoor.Wm in
theorem ints_byt {L : List Nat} (h : All8 L) : Byt (ints L) := by
  intro z hz
  obtain ⟨x, hx, rfl⟩ := List.mem_map.1 hz
  have := h x hx
  omega
end Go.Proofs.YtheambpddpfcfaaDoor.Ka
