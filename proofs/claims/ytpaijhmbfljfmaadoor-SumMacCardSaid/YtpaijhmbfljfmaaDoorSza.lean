/- The loops of the reference's Of, taken out of its text; its memory with the words' row. -/
import Derived.Test.YtpaijhmbfljfmaaDoorSrf1
import Derived.OwnWalk
namespace Go.Proofs.YtpaijhmbfljfmaaDoor.Sza
set_option linter.unusedVariables false
set_option linter.unusedSimpArgs false
set_option maxRecDepth 100000
open Go.RowKit
open Go.Proofs.YtpaijhmbfljfmaaDoor.Wu Go.Proofs.YtpaijhmbfljfmaaDoor.Sm Go.Proofs.YtpaijhmbfljfmaaDoor.Sk Go.Proofs.YtpaijhmbfljfmaaDoor.Sc Go.Proofs.YtpaijhmbfljfmaaDoor.Sxa Go.Proofs.YtpaijhmbfljfmaaDoor.Sh Go.Proofs.YtpaijhmbfljfmaaDoor.Sn Go.Proofs.YtpaijhmbfljfmaaDoor.Sw0 Go.Proofs.YtpaijhmbfljfmaaDoor.Sf Go.Proofs.YtpaijhmbfljfmaaDoor.So Go.Proofs.YtpaijhmbfljfmaaDoor.Sv Go.Proofs.YtpaijhmbfljfmaaDoor.Ap Go.Proofs.YtpaijhmbfljfmaaDoor.Sr Go.Proofs.YtpaijhmbfljfmaaDoor.Srf0 Go.Proofs.YtpaijhmbfljfmaaDoor.Srf1
def loops : Code → List Code
  | .loop c => .loop c :: loops c
  | .seq a b => loops a ++ loops b
  | .block _ c => loops c
  | .scope c => loops c
  | .cond _ a b => loops a ++ loops b
  | _ => []
noncomputable def lc (k : Nat) : Code := (((Tryd.f18.body.map loops).getD [])[k]?).getD .skip
/-- The memory, and the words' row. -/
structure E2 (w wr : World) (KB HB g nb cap : Nat) (PM : List Nat) (s : S8) (WB : Nat) (row : List Nat) : Prop where
  env : Env w wr KB HB g (64 * nb) cap PM s
  row : wr.heap[WB]? = some (.cells (u64s row) 100 (0, 0))
  nk : KB ≠ WB
  nh : HB ≠ WB
  ng : g ≠ WB
  nr : w.heap.size < WB
section
variable {w wr wr' : World} {KB HB g nb cap : Nat} {PM : List Nat} {s : S8} {WB : Nat} {row row' : List Nat}
theorem E2.step {i x : Nat} (h : E2 w wr KB HB g nb cap PM s WB row) (hr : row.set i x = row') (hi : i < row.length) : ∀ k : Nat, E2 w ((wr.drewN k).setCell ⟨WB, i, none⟩ (.int .u64 (x : Int))) KB HB g nb cap PM s WB row' := by
  intro k
  refine ⟨(h.env.drewN k).grown (grown_setCell (World.grownBy.refl _ (some WB)) i _) h.nk h.nh h.ng h.nr, ?_, h.nk, h.nh, h.ng, h.nr⟩
  have h1 : (wr.drewN k).heap[WB]? = some (.cells (u64s row) 100 (0, 0)) := h.row
  rw [blk_set h1, u64s_set, hr]
theorem E2.up (h : E2 w wr KB HB g nb cap PM s WB row) (hb : Below wr.heap.size wr wr') : E2 w wr' KB HB g nb cap PM s WB row :=
  ⟨h.env.up hb, below_blk hb (heap_lt h.row) h.row, h.nk, h.nh, h.ng, h.nr⟩
end
theorem drewN_add (w : World) (a b : Nat) : (w.drewN a).drewN b = w.drewN (a + b) := by simp [World.drewN, Nat.add_assoc]
theorem xor3 (a b c : Nat) (ha : a < 4294967296) (hb : b < 4294967296) (hc : c < 4294967296) : bits BinOp.xor IntKind.u64 (bits BinOp.xor IntKind.u64 (a : Int) (b : Int)) (c : Int) = ((a ^^^ b ^^^ c : Nat) : Int) := by
  have h := xor_lt ha hb
  rw [u64_xor_nat a b (by omega) (by omega), u64_xor_nat (a ^^^ b) c (by omega) (by omega)]
theorem shr_int (x n : Nat) : (x : Int) / ((2 ^ n : Nat) : Int) = ((x >>> n : Nat) : Int) := by rw [Nat.shiftRight_eq_div_pow, Int.natCast_ediv]
theorem word_eq (A X B Y : Nat) (hA : A < 4294967296) (hX : X < 4294967296) (hB : B < 4294967296) (hY : Y < 4294967296) :
    (IntKind.u64.wrap (IntKind.u64.wrap (IntKind.u64.wrap ((A : Int) + bits BinOp.xor IntKind.u64 (bits BinOp.xor IntKind.u64 ((rotr X 7 : Nat) : Int) ((rotr X 18 : Nat) : Int)) ((X : Int) / 8)) + (B : Int)) + bits BinOp.xor IntKind.u64 (bits BinOp.xor IntKind.u64 ((rotr Y 17 : Nat) : Int) ((rotr Y 19 : Nat) : Int)) ((Y : Int) / 1024))).tmod 4294967296 = (((A + lS0 X + B + lS1 Y) % 4294967296 : Nat) : Int) := by
  have e1 : (X : Int) / (8 : Int) = ((X >>> 3 : Nat) : Int) := by rw [Nat.shiftRight_eq_div_pow]; show _ = ((X / 8 : Nat) : Int); omega
  have e2 : (Y : Int) / (1024 : Int) = ((Y >>> 10 : Nat) : Int) := by rw [Nat.shiftRight_eq_div_pow]; show _ = ((Y / 1024 : Nat) : Int); omega
  rw [e1, e2, xor3 _ _ _ (rotr_lt hX) (rotr_lt hX) (shr_lt hX), xor3 _ _ _ (rotr_lt hY) (rotr_lt hY) (shr_lt hY)]
  have h1 := lS0_lt hX
  have h2 := lS1_lt hY
  unfold lS0 at h1 ⊢
  unfold lS1 at h2 ⊢
  generalize rotr X 7 ^^^ rotr X 18 ^^^ X >>> 3 = p at *
  generalize rotr Y 17 ^^^ rotr Y 19 ^^^ Y >>> 10 = r at *
  rw [IntKind.wrap_u64, IntKind.wrap_u64, IntKind.wrap_u64, Int.tmod_eq_emod_of_nonneg (by omega)]
  omega
/-- The row while it is filled: 16 + j words. -/
def eRow (L : List Nat) (j : Nat) : List Nat := ext j (W16 L) ++ zeros (48 - j)
theorem eRow_zero (L : List Nat) : wHead L 16 = eRow L 0 := wHead_end L
theorem eRow_end (L : List Nat) : eRow L 48 = sched L := by unfold eRow sched; simp [zeros]
theorem eRow_length (L : List Nat) (j : Nat) (h : j ≤ 48) : (eRow L j).length = 64 := by unfold eRow; rw [List.length_append, ext_length, W16_length, zeros_length]; omega
theorem eRow_at (L : List Nat) (j k : Nat) (h : k < 16 + j) : (eRow L j).getD k 0 = (ext j (W16 L)).getD k 0 := getD_left _ _ _ (by rw [ext_length, W16_length]; exact h)
theorem eRow_step (L : List Nat) (j : Nat) (h : j < 48) : (eRow L j).set (16 + j) (nxt (ext j (W16 L))) = eRow L (j + 1) := by
  unfold eRow
  have e : 16 + j = (ext j (W16 L)).length := by rw [ext_length, W16_length]
  rw [e, show 48 - j = (48 - (j + 1)) + 1 by omega]
  exact set_grow _ _ _
theorem nxt_is (L : List Nat) (j : Nat) : nxt (ext j (W16 L)) = ((eRow L j).getD j 0 + lS0 ((eRow L j).getD (j + 1) 0) + (eRow L j).getD (j + 9) 0 + lS1 ((eRow L j).getD (j + 14) 0)) % 4294967296 := by
  unfold nxt
  rw [ext_length, W16_length, eRow_at L j j (by omega), eRow_at L j (j + 1) (by omega), eRow_at L j (j + 9) (by omega), eRow_at L j (j + 14) (by omega)]
  rw [show 16 + j - 2 = j + 14 by omega, show 16 + j - 7 = j + 9 by omega, show 16 + j - 15 = j + 1 by omega, show 16 + j - 16 = j by omega]
  congr 1
  omega
theorem eRow_all {L : List Nat} (h : All8 L) (j : Nat) : All32 (eRow L j) := by
  intro x hx
  rcases List.mem_append.1 hx with h1 | h1
  · exact ext_all (W16_all h) j x h1
  · rw [List.eq_of_mem_replicate h1]; omega
theorem chs_eq (e f g : Nat) (he : e < 4294967296) (hf : f < 4294967296) (hg : g < 4294967296) : bits BinOp.or IntKind.u64 (bits BinOp.and IntKind.u64 (e : Int) (f : Int)) (bits BinOp.and IntKind.u64 (IntKind.u64.wrap (IntKind.u64.wrap 4294967295 - (e : Int))) (g : Int)) = ((chs e f g : Nat) : Int) := by
  have e1 : IntKind.u64.wrap (IntKind.u64.wrap 4294967295 - (e : Int)) = ((4294967295 - e : Nat) : Int) := by rw [IntKind.wrap_u64, IntKind.wrap_u64]; omega
  have h1 := and_lt (x := e) hf
  have h2 := and_lt (x := 4294967295 - e) hg
  rw [e1, u64_and_nat _ _ (by omega) (by omega), u64_and_nat _ _ (by omega) (by omega), u64_or_nat _ _ (by omega) (by omega), chs_or e f g he hf hg]
theorem maj_eq (a b c : Nat) (ha : a < 4294967296) (hb : b < 4294967296) (hc : c < 4294967296) : bits BinOp.or IntKind.u64 (bits BinOp.or IntKind.u64 (bits BinOp.and IntKind.u64 (a : Int) (b : Int)) (bits BinOp.and IntKind.u64 (a : Int) (c : Int))) (bits BinOp.and IntKind.u64 (b : Int) (c : Int)) = ((maj a b c : Nat) : Int) := by
  have h1 := and_lt (x := a) hb
  have h2 := and_lt (x := a) hc
  have h3 := and_lt (x := b) hc
  have h4 := or_lt h1 h2
  rw [u64_and_nat _ _ (by omega) (by omega), u64_and_nat _ _ (by omega) (by omega), u64_and_nat _ _ (by omega) (by omega), u64_or_nat _ _ (by omega) (by omega), u64_or_nat _ _ (by omega) (by omega), maj_or]
theorem one_eq (h e C K X : Nat) (hh : h < 4294967296) (he : e < 4294967296) (hC : C < 4294967296) (hK : K < 4294967296) (hX : X < 4294967296) :
    IntKind.u64.wrap (IntKind.u64.wrap (IntKind.u64.wrap (IntKind.u64.wrap ((h : Int) + bits BinOp.xor IntKind.u64 (bits BinOp.xor IntKind.u64 ((rotr e 6 : Nat) : Int) ((rotr e 11 : Nat) : Int)) ((rotr e 25 : Nat) : Int)) + (C : Int)) + (K : Int)) + (X : Int)) = ((h + bS1 e + C + K + X : Nat) : Int) := by
  rw [xor3 _ _ _ (rotr_lt he) (rotr_lt he) (rotr_lt he)]
  have h1 := bS1_lt he
  unfold bS1 at h1 ⊢
  generalize rotr e 6 ^^^ rotr e 11 ^^^ rotr e 25 = p at *
  rw [IntKind.wrap_u64, IntKind.wrap_u64, IntKind.wrap_u64, IntKind.wrap_u64]
  omega
theorem two_eq (a M : Nat) (ha : a < 4294967296) (hM : M < 4294967296) :
    IntKind.u64.wrap (bits BinOp.xor IntKind.u64 (bits BinOp.xor IntKind.u64 ((rotr a 2 : Nat) : Int) ((rotr a 13 : Nat) : Int)) ((rotr a 22 : Nat) : Int) + (M : Int)) = ((bS0 a + M : Nat) : Int) := by
  rw [xor3 _ _ _ (rotr_lt ha) (rotr_lt ha) (rotr_lt ha)]
  have h1 := bS0_lt ha
  unfold bS0 at h1 ⊢
  generalize rotr a 2 ^^^ rotr a 13 ^^^ rotr a 22 = p at *
  rw [IntKind.wrap_u64]
  omega
theorem sum_eq2 (a b : Nat) (ha : a < 68719476736) (hb : b < 68719476736) : (IntKind.u64.wrap ((a : Int) + (b : Int))).tmod 4294967296 = (((a + b) % 4294967296 : Nat) : Int) := by
  rw [IntKind.wrap_u64, Int.tmod_eq_emod_of_nonneg (by omega)]
  omega
/-- Eight words at the beginning of a block. -/
structure V8 (wr : World) (VB : Nat) (t : S8) : Prop where
  a : wr.cell? ⟨VB, 0, none⟩ = some (.int .u64 (t.a : Int))
  b : wr.cell? ⟨VB, 1, none⟩ = some (.int .u64 (t.b : Int))
  c : wr.cell? ⟨VB, 2, none⟩ = some (.int .u64 (t.c : Int))
  d : wr.cell? ⟨VB, 3, none⟩ = some (.int .u64 (t.d : Int))
  e : wr.cell? ⟨VB, 4, none⟩ = some (.int .u64 (t.e : Int))
  f : wr.cell? ⟨VB, 5, none⟩ = some (.int .u64 (t.f : Int))
  g : wr.cell? ⟨VB, 6, none⟩ = some (.int .u64 (t.g : Int))
  h : wr.cell? ⟨VB, 7, none⟩ = some (.int .u64 (t.h : Int))
theorem V8.drewN {wr : World} {VB : Nat} {t : S8} (h : V8 wr VB t) (k : Nat) : V8 (wr.drewN k) VB t := ⟨h.a, h.b, h.c, h.d, h.e, h.f, h.g, h.h⟩
theorem V8.up {wr wr' : World} {VB : Nat} {t : S8} (h : V8 wr VB t) (hb : Below wr.heap.size wr wr') : V8 wr' VB t :=
  ⟨keepC hb (Nat.le_refl _) h.a, keepC hb (Nat.le_refl _) h.b, keepC hb (Nat.le_refl _) h.c, keepC hb (Nat.le_refl _) h.d, keepC hb (Nat.le_refl _) h.e, keepC hb (Nat.le_refl _) h.f, keepC hb (Nat.le_refl _) h.g, keepC hb (Nat.le_refl _) h.h⟩
theorem V8.blk {wr : World} {VB : Nat} {t : S8} {T : TypeId} {f : Nat × Nat} (h : wr.heap[VB]? = some (.cells (u64s t.list) T f)) : V8 wr VB t :=
  ⟨blk_cell h rfl, blk_cell h rfl, blk_cell h rfl, blk_cell h rfl, blk_cell h rfl, blk_cell h rfl, blk_cell h rfl, blk_cell h rfl⟩
theorem E2.drewN {w wr : World} {KB HB g nb cap : Nat} {PM : List Nat} {s : S8} {WB : Nat} {row : List Nat} (h : E2 w wr KB HB g nb cap PM s WB row) (k : Nat) : E2 w (wr.drewN k) KB HB g nb cap PM s WB row := ⟨h.env.drewN k, h.row, h.nk, h.nh, h.ng, h.nr⟩
theorem step_is (ta tb tc td te tf tg th K X O T : Nat) (hO : O = th + bS1 te + chs te tf tg + K + X) (hT : T = bS0 ta + maj ta tb tc) :
    S8.step ⟨ta, tb, tc, td, te, tf, tg, th⟩ K X = ⟨(O + T) % 4294967296, ta, tb, tc, (td + O) % 4294967296, te, tf, tg⟩ := by
  unfold S8.step one two
  simp only
  rw [← hO, ← hT, ← Nat.add_mod, Nat.add_mod_mod]
theorem v8_new (wr : World) (T : TypeId) (a b c d e f g h : Nat) : V8 (wr.alloc (.cells #[.int .u64 (a : Int), .int .u64 (b : Int), .int .u64 (c : Int), .int .u64 (d : Int), .int .u64 (e : Int), .int .u64 (f : Int), .int .u64 (g : Int), .int .u64 (h : Int)] T)) wr.heap.size ⟨a, b, c, d, e, f, g, h⟩ :=
  have H := heap_last wr (.cells #[.int .u64 (a : Int), .int .u64 (b : Int), .int .u64 (c : Int), .int .u64 (d : Int), .int .u64 (e : Int), .int .u64 (f : Int), .int .u64 (g : Int), .int .u64 (h : Int)] T)
  ⟨blk_cell H rfl, blk_cell H rfl, blk_cell H rfl, blk_cell H rfl, blk_cell H rfl, blk_cell H rfl, blk_cell H rfl, blk_cell H rfl⟩
end Go.Proofs.YtpaijhmbfljfmaaDoor.Sza
