/- sum.Cut and weak.Of at a slice of bytes; what block.Make lays. -/
import Derived.Test.YtheambpddpfcfaaDoorKd
import Derived.Test.YtheambpddpfcfaaDoorSu
import Derived.Test.YtheambpddpfcfaaDoorWc
import Derived.Test.YtheambpddpfcfaaDoorRg
import Derived.Test.YtheambpddpfcfaaDoorRx
namespace Go.Proofs.YtheambpddpfcfaaDoor.Ke
set_option linter.unusedVariables false
set_option linter.unusedSimpArgs false
set_option maxRecDepth 100000
open Go.ChangeShapes Go.WideShapes Go.ChangeAt Go.RowKit
open Go.Proofs.YtheambpddpfcfaaDoor.Wu Go.Proofs.YtheambpddpfcfaaDoor.Sm Go.Proofs.YtheambpddpfcfaaDoor.Sh Go.Proofs.YtheambpddpfcfaaDoor.Ba Go.Proofs.YtheambpddpfcfaaDoor.Bp Go.Proofs.YtheambpddpfcfaaDoor.Ka Go.Proofs.YtheambpddpfcfaaDoor.Kb Go.Proofs.YtheambpddpfcfaaDoor.Kc Go.Proofs.YtheambpddpfcfaaDoor.Kd Go.Proofs.YtheambpddpfcfaaDoor.Rk Go.Proofs.YtheambpddpfcfaaDoor.Rg
open Go.Proofs.YtheambpddpfcfaaDoor.Sn (Fst fst_keep)
open Go.Proofs.YtheambpddpfcfaaDoor.Sxa (Tbl tbl_keep)
open Go.Proofs.YtheambpddpfcfaaDoor.Su (cutL Cnt)
attribute [local go_sem] kUpon_value kUpon_skip kUpon_enter
theorem cut_b (n : Int) (k : Nat) (a : Option Addr) (m c : Nat) (L : List Nat) (w : World) (hk : Cnt n k) (hs : SrcB w a m L) (hc : m ≤ c) (hT : Tbl w) (hF : Fst w) (hbig : m ≤ 140737488355328) :
    Calls Tryd.prog 54 #[.int .i64 n, .slice a m c] w fun e w' => e = .returned (.agg (u8s (cutL k (sha L)))) ∧ Below w.heap.size w w' := Su.cut_c n k a m c L w hk hs hc hT hF hbig
open Go.Proofs.YtheambpddpfcfaaDoor.Wm in
theorem weak_b (a : Option Addr) (m c : Nat) (L : List Nat) (w : World) (hs : SrcB w a m L) (hbig : m < 2147483648) :
    Calls Tryd.prog 29 #[.slice a m c] w fun e w' => e = .returned (.agg #[.int .i64 (m : Int), .int .u16 (lo (ints L)), .int .u16 (hi (ints L))]) ∧ Below w.heap.size w w' := by
  obtain ⟨hl, h8, b, off, ha, hcell⟩ := hs
  rcases Nat.eq_zero_or_pos m with h0 | h0
  · subst h0
    obtain rfl : L = [] := List.length_eq_zero_iff.1 hl
    exact Wc.of_none a c w
  · rw [ha h0]
    have h1 := hcell 0 h0
    refine Wc.of_row b off c m (ints L) w (by rw [ints_length, hl]) (ints_byt h8) hbig (cell_lt h1) (fun i hi => ?_)
    rw [ints_getD]
    exact hcell i hi
open Go.Proofs.YtheambpddpfcfaaDoor.Wm in
theorem value_b (m : Nat) (L : List Nat) (w : World) :
    Calls Tryd.prog 30 #[.agg #[.int .i64 (m : Int), .int .u16 (lo (ints L)), .int .u16 (hi (ints L))]] w fun e w' => e = .returned (.int .u32 ((wkN L : Nat) : Int)) ∧ Below w.heap.size w w' := by
  have h := Wk.value_any (m : Int) (lo (ints L)) (hi (ints L)) w (lo_nonneg _) (lo_lt _) (hi_nonneg _) (hi_lt _)
  rw [wkN_is]
  exact h
/-- A block's sums, by its bytes. -/
def blkOf (k : Nat) (L : List Nat) : Blk := ⟨wkN L, cutL k (sha L)⟩
theorem all8_sub {X : List Nat} (h : All8 X) (k n : Nat) : All8 (X.take k ++ zeros n) := by
  intro x hx
  rcases List.mem_append.1 hx with hx | hx
  · exact h x (List.mem_of_mem_take hx)
  · rw [List.eq_of_mem_replicate hx]; omega
theorem sha_len (L : List Nat) : (sha L).length = 32 := by rfl
theorem blkOf_ok (k : Nat) (hk : k ≤ 32) (L : List Nat) : (blkOf k L).ok := by
  refine ⟨wkN_lt L, Su.cutL_length k _ hk (sha_len L), ?_⟩
  exact all8_sub (all8_sha L) k (32 - k)
/-- All blocks of a file. -/
def mkB (D : List Nat) (sz k n : Nat) : List Blk := (List.range n).map fun i => blkOf k (piece D sz i)
theorem mkB_length (D : List Nat) (sz k n : Nat) : (mkB D sz k n).length = n := by simp [mkB]
theorem mkB_snoc (D : List Nat) (sz k n : Nat) : mkB D sz k (n + 1) = mkB D sz k n ++ [blkOf k (piece D sz n)] := by simp [mkB, List.range_succ]
theorem mkB_oks (D : List Nat) (sz k n : Nat) (hk : k ≤ 32) : Oks (mkB D sz k n) := by
  intro b hb
  obtain ⟨i, _, rfl⟩ := List.mem_map.1 hb
  exact blkOf_ok k hk _
/-- A list of blocks under way: the signature in S holds the slice v, what the list has is vo's; R holds the call's result. -/
structure MB (q : IntKind) (e T : TypeId) (w0 : World) (R S N : Nat) (rc : Obj) (sz cut len : Int) (v vo : Value) (bs : List Blk) (u : World) : Prop where
  below : Below w0.heap.size w0 u
  hS : w0.heap.size ≤ S
  SN : S < N
  RN : R < N
  RS : R ≠ S
  Nu : N ≤ u.heap.size
  sig : Sig4 T u S sz cut len v
  res : u.heap[R]? = some rc
  own : OwnBks q e u N vo bs
section
variable {q : IntKind} {e T : TypeId} {w0 : World} {R S N : Nat} {rc : Obj} {sz cut len : Int} {v vo v0 : Value} {bs : List Blk} {x : Blk}
theorem MB.up {u u' : World} (H : MB q e T w0 R S N rc sz cut len v vo bs u) (hb : Below u.heap.size u u') : MB q e T w0 R S N rc sz cut len v vo bs u' :=
  ⟨keepB hb (Nat.le_refl _) H.below, H.hS, H.SN, H.RN, H.RS, Nat.le_trans H.Nu hb.size, H.sig.below hb, below_blk hb (heap_lt H.res) H.res, H.own.below hb⟩
theorem MB.store {u : World} (H : MB q e T w0 R S N rc sz cut len v vo bs u) : MB q e T w0 R S N rc sz cut len vo vo bs (u.setCell ⟨S, 3, none⟩ vo) := by
  have hg := grown_setCell (World.grownBy.refl u (some S)) 3 vo
  exact ⟨H.below.setCell H.hS _, H.hS, H.SN, H.RN, H.RS, by simpa [World.setCell] using H.Nu, H.sig.setList vo, keepG hg H.RS H.res, H.own.kept hg (fun e => by have := (H.own.own _ e).1; have := H.SN; omega)⟩
theorem MB.append {u u' : World} {v' : Value} (H : MB q e T w0 R S N rc sz cut len v vo bs u) (hg : u.grownBy u' vo.ownBlock) (ho : OwnBks q e u' N v' (bs ++ [x])) : MB q e T w0 R S N rc sz cut len v v' (bs ++ [x]) u' := by
  have hlt : ∀ k, vo.ownBlock = some k → N ≤ k := fun k hk => (H.own.own k hk).1
  have h1 := H.hS
  have h2 := H.SN
  have h3 := H.RN
  refine ⟨H.below.grown hg H.below.size (fun k hk => by have := hlt k hk; omega), H.hS, H.SN, H.RN, H.RS, Nat.le_trans H.Nu hg.size, H.sig.kept hg (fun e => by have := hlt S e.symm; omega), ?_, ho⟩
  exact (hg.block R (heap_lt H.res) (fun e => by have := hlt R e.symm; omega)).trans H.res
/-- The stages of the round's region. -/
def MT (q : IntKind) (e T : TypeId) (w0 : World) (R S N : Nat) (rc : Obj) (sz cut len : Int) (v0 : Value) (bs : List Blk) (x : Blk) : List Value → World → Prop
  | [], u => MB q e T w0 R S N rc sz cut len v0 v0 bs u
  | [b], u => MB q e T w0 R S N rc sz cut len v0 v0 bs u ∧ ∃ B, b = .slice (some ⟨B, 0, none⟩) 1 1 ∧ ∃ T f, u.heap[B]? = some (.cells (blkC q x).toArray T f)
  | [_, v], u => MB q e T w0 R S N rc sz cut len v0 v (bs ++ [x]) u
  | [_, v, _], u => MB q e T w0 R S N rc sz cut len v v (bs ++ [x]) u
  | _, _ => False
theorem MT.base {h : List Value} {u : World} (H : MT q e T w0 R S N rc sz cut len v0 bs x h u) : Below w0.heap.size w0 u := by
  match h, H with
  | [], H => exact H.below
  | [_], H => exact H.1.below
  | [_, _], H => exact MB.below H
  | [_, _, _], H => exact MB.below H
theorem MT.up {h : List Value} {u u' : World} (H : MT q e T w0 R S N rc sz cut len v0 bs x h u) (hb : Below u.heap.size u u') : MT q e T w0 R S N rc sz cut len v0 bs x h u' := by
  match h, H with
  | [], H => exact MB.up H hb
  | [_], ⟨H, B, h6, T', f, h7⟩ => exact ⟨H.up hb, B, h6, T', f, below_blk hb (heap_lt h7) h7⟩
  | [_, _], H => exact MB.up H hb
  | [_, _, _], H => exact MB.up H hb
/-- The signature's cells at the first stages. -/
theorem MT.sig {h : List Value} {u : World} (H : MT q e T w0 R S N rc sz cut len v0 bs x h u) (hl : h.length ≤ 1) : Sig4 T u S sz cut len v0 := by
  match h, H with
  | [], H => exact MB.sig H
  | [_], H => exact H.1.sig
  | [_, _], H => simp at hl
  | [_, _, _], H => simp at hl
end
end Go.Proofs.YtheambpddpfcfaaDoor.Ke
