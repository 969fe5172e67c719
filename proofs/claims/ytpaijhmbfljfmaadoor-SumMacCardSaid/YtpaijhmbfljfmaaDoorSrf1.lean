/- The reference's memory while it sums. -/
import Derived.Test.YtpaijhmbfljfmaaDoorSrf0
import Derived.Test.YtpaijhmbfljfmaaDoorSv
namespace Go.Proofs.YtpaijhmbfljfmaaDoor.Srf1
set_option linter.unusedVariables false
set_option linter.unusedSimpArgs false
set_option maxRecDepth 100000
open Go.RowKit
open Go.Proofs.YtpaijhmbfljfmaaDoor.Wu Go.Proofs.YtpaijhmbfljfmaaDoor.Sm Go.Proofs.YtpaijhmbfljfmaaDoor.Sk Go.Proofs.YtpaijhmbfljfmaaDoor.Sc Go.Proofs.YtpaijhmbfljfmaaDoor.Sxa Go.Proofs.YtpaijhmbfljfmaaDoor.Sh Go.Proofs.YtpaijhmbfljfmaaDoor.Sn Go.Proofs.YtpaijhmbfljfmaaDoor.Sw0 Go.Proofs.YtpaijhmbfljfmaaDoor.Sf Go.Proofs.YtpaijhmbfljfmaaDoor.So Go.Proofs.YtpaijhmbfljfmaaDoor.Sv Go.Proofs.YtpaijhmbfljfmaaDoor.Ap Go.Proofs.YtpaijhmbfljfmaaDoor.Sr Go.Proofs.YtpaijhmbfljfmaaDoor.Srf0

/-- What lies where: the words of the rounds, the state, the message, the result's cell. -/
structure Env (w wr : World) (KB HB g n cap : Nat) (PM : List Nat) (s : S8) : Prop where
  ks : wr.heap[KB]? = some (.cells (u64s Ks) 100 (0, 0))
  hs : wr.heap[HB]? = some (.cells (u64s s.list) 100 (0, 0))
  msg : Dst wr g n cap PM
  res : wr.heap[w.heap.size]? = some (.cells (u8s (zeros 32)) 27 (0, 0))
  below : Below w.heap.size w wr
section
variable {w wr wr' : World} {KB HB g n cap : Nat} {PM : List Nat} {s : S8}
theorem Env.grown {k : Nat} (h : Env w wr KB HB g n cap PM s) (hg : wr.grownBy wr' (some k)) (h1 : KB ≠ k) (h2 : HB ≠ k) (h3 : g ≠ k) (h4 : w.heap.size < k) : Env w wr' KB HB g n cap PM s :=
  ⟨keepG hg h1 h.ks, keepG hg h2 h.hs, h.msg.kept hg h3, keepG hg (by omega) h.res, belowG h.below hg (by omega) h.below.size⟩
theorem Env.up (h : Env w wr KB HB g n cap PM s) (hb : Below wr.heap.size wr wr') : Env w wr' KB HB g n cap PM s :=
  ⟨below_blk hb (heap_lt h.ks) h.ks, below_blk hb (heap_lt h.hs) h.hs, h.msg.below hb h.msg.lt, below_blk hb (heap_lt h.res) h.res, keepB hb (Nat.le_refl _) h.below⟩
theorem Env.drewN (h : Env w wr KB HB g n cap PM s) (k : Nat) : Env w (wr.drewN k) KB HB g n cap PM s := ⟨h.ks, h.hs, ⟨h.msg.len, h.msg.all, h.msg.fit, h.msg.max, h.msg.lt, h.msg.cells, h.msg.spare⟩, h.res, below_drewN h.below k⟩
theorem Env.lts (h : Env w wr KB HB g n cap PM s) : KB < wr.heap.size ∧ HB < wr.heap.size ∧ g < wr.heap.size ∧ w.heap.size < wr.heap.size := ⟨heap_lt h.ks, heap_lt h.hs, h.msg.lt, heap_lt h.res⟩
end
/-- A word out of so many of its bytes. -/
def acc (L : List Nat) (i : Nat) : Nat → Nat
  | 0 => 0
  | c + 1 => acc L i c * 256 + L.getD (4 * i + c) 0
theorem acc_lt {L : List Nat} (h : All8 L) (i : Nat) : ∀ c, c ≤ 4 → acc L i c < 256 ^ c
  | 0, _ => by simp [acc]
  | c + 1, hc => by
    have h1 := acc_lt h i c (by omega)
    have h2 := all8_getD h (4 * i + c)
    rw [acc, Nat.pow_succ]
    have : acc L i c * 256 + 256 ≤ 256 ^ c * 256 := by rw [← Nat.succ_mul]; exact Nat.mul_le_mul_right _ h1
    omega
theorem acc_four (L : List Nat) (i : Nat) : acc L i 4 = w16 L i := by
  simp only [acc, w16, wd, Nat.add_zero, Nat.zero_mul, Nat.zero_add]; omega
theorem acc_bd {L : List Nat} (h : All8 L) (i c : Nat) (hc : c < 4) : acc L i c < 16777216 := by
  have := acc_lt h i c (by omega)
  have h2 : 256 ^ c ≤ 256 ^ 3 := Nat.pow_le_pow_right (by decide) (by omega)
  omega
/-- The words' row: i words, and c bytes of the next one. -/
def wRow (L : List Nat) (i c : Nat) : List Nat := (W16 L).take i ++ acc L i c :: zeros (63 - i)
theorem wRow_length (L : List Nat) (i c : Nat) (hi : i < 16) : (wRow L i c).length = 64 := by simp [wRow, W16_length, zeros]; omega
theorem wRow_at (L : List Nat) (i c : Nat) (hi : i < 16) : (wRow L i c).getD i 0 = acc L i c := by
  have hl : ((W16 L).take i).length = i := by rw [List.length_take, W16_length]; omega
  simp only [wRow, List.getD]
  rw [List.getElem?_append_right (by omega), hl, Nat.sub_self]; rfl
theorem wRow_step (L : List Nat) (i c : Nat) (hi : i < 16) : (wRow L i c).set i (acc L i c * 256 + L.getD (4 * i + c) 0) = wRow L i (c + 1) := by
  have hl : ((W16 L).take i).length = i := by rw [List.length_take, W16_length]; omega
  unfold wRow
  rw [List.set_append_right _ _ (by omega), hl, Nat.sub_self, List.set_cons_zero]
  rfl
theorem wRow_next (L : List Nat) (i : Nat) (hi : i < 15) : wRow L i 4 = wRow L (i + 1) 0 := by
  unfold wRow
  rw [acc_four, W16_take L i (by omega), show 63 - i = (63 - (i + 1)) + 1 by omega]
  simp [acc, zeros, List.replicate_succ]
theorem wRow_zero (L : List Nat) : wRow L 0 0 = zeros 64 := by simp [wRow, acc, zeros]
/-- The row at the head of the words' loop. -/
def wHead (L : List Nat) (i : Nat) : List Nat := (W16 L).take i ++ zeros (64 - i)
theorem wHead_row (L : List Nat) (i : Nat) (hi : i < 16) : wHead L i = wRow L i 0 := by
  unfold wHead wRow
  rw [show 64 - i = (63 - i) + 1 by omega]
  rfl
theorem wRow_head (L : List Nat) (i : Nat) (hi : i < 16) : wRow L i 4 = wHead L (i + 1) := by
  unfold wRow wHead
  rw [acc_four, W16_take L i hi, show 64 - (i + 1) = 63 - i by omega]
  simp
theorem wHead_end (L : List Nat) : wHead L 16 = ext 0 (W16 L) ++ zeros 48 := by
  unfold wHead; rw [List.take_of_length_le (by rw [W16_length]; omega)]; rfl
theorem blk_getD (PM : List Nat) (q i : Nat) (hi : i < 64) : (blk PM q).getD i 0 = PM.getD (64 * q + i) 0 := by
  unfold blk
  simp only [List.getD, List.getElem?_take_of_lt hi, List.getElem?_drop]
theorem all8_blk {PM : List Nat} (h : All8 PM) (q : Nat) : All8 (blk PM q) := all8_take (all8_drop h _) _
theorem wpList_buildSlice_to {P : Program} {ops : Array Oper} {rest : List Oper} {o : Oper} {a : Act} {w : World} {Q : Exit → Act → World → Prop} (hg : o.guard = none) (t : TypeId) (len : Nat) (parts : Array (Nat × Operand)) (ho : o.op = .buildSlice t len parts)
    (d : Option Tmp) (hd : o.dst = d) (vals : Array (Nat × Value)) (hv : (parts.map fun (i, x) => (i, a.eval x)) = vals) (v : Value) (w' : World) (hr : Sem.run P (Instr.buildSlice t len vals) w = .ok v w')
    (h : Hid (wpList P ops Q rest (a.put d v) w')) : wpList P ops Q (o :: rest) a w := by
  subst hd hv
  refine wpList_plain hg fun K hK => ?_
  unfold Oper.wp
  have e : (execOp a.eval o).run P w = .ok (.value v) w' := by
    unfold execOp
    simp only [ho]
    simp only [Sem.run_bind, Sem.run_pure]
    rw [hr]
    rfl
  rw [e]
  exact hK _ _ h
theorem build_h0 (u : World) : Sem.run Tryd.prog (Instr.buildSlice 105 8 #[(0, .int .u64 1779033703), (1, .int .u64 3144134277), (2, .int .u64 1013904242), (3, .int .u64 2773480762), (4, .int .u64 1359893119), (5, .int .u64 2600822924), (6, .int .u64 528734635), (7, .int .u64 1541459225)]) u = .ok (.slice (some ⟨u.heap.size, 0, none⟩) 8 8) (u.alloc (.cells (u64s H0.list) 100)) := by kernel_rfl
theorem build_s8 (u : World) (a b c d e f g h : Int) : Sem.run Tryd.prog (Instr.buildSlice 105 8 #[(0, .int .u64 a), (1, .int .u64 b), (2, .int .u64 c), (3, .int .u64 d), (4, .int .u64 e), (5, .int .u64 f), (6, .int .u64 g), (7, .int .u64 h)]) u = .ok (.slice (some ⟨u.heap.size, 0, none⟩) 8 8) (u.alloc (.cells #[.int .u64 a, .int .u64 b, .int .u64 c, .int .u64 d, .int .u64 e, .int .u64 f, .int .u64 g, .int .u64 h] 100)) := by kernel_rfl
end Go.Proofs.YtpaijhmbfljfmaaDoor.Srf1
