/- Several texts, one behind the other. -/
import Derived.Test.YtheambpddpfcfaaDoorAp
import Derived.Test.YtheambpddpfcfaaDoorSr
import Derived.Test.YtheambpddpfcfaaDoorSrt
import Derived.Test.YtheambpddpfcfaaDoorRk
import Derived.Laws.IdiomStrings
import Derived.Deep.QuietTactic
import Derived.BigQuiet
import Derived.IntWalk
import Derived.Test.YtheambpddpfcfaaDoorSf
import Derived.OwnWalk
import Derived.Maps.AppendAt
import Derived.Test.YtheambpddpfcfaaDoorSu
import Derived.Test.YtheambpddpfcfaaDoorWc
import Derived.Test.YtheambpddpfcfaaDoorBp
import Derived.Laws.BytesArg
import Derived.Laws.BytesString
import Derived.Test.YtheambpddpfcfaaDoorKf
import Derived.Test.YtheambpddpfcfaaDoorKp
import Derived.Test.YtheambpddpfcfaaDoorSo
import Derived.OpenShut
import Derived.Test.YtheambpddpfcfaaDoorBa
import Derived.ProofKit
/- What the reference's sum needs: its bytes, its words. -/
namespace Go.Proofs.YtheambpddpfcfaaDoor.Srf0
set_option linter.unusedVariables false
set_option linter.unusedSimpArgs false
set_option maxRecDepth 100000
open Go.ChangeShapes Go.WideShapes Go.ChangeAt Go.RowKit
open Go.Proofs.YtheambpddpfcfaaDoor.Wu Go.Proofs.YtheambpddpfcfaaDoor.Sm Go.Proofs.YtheambpddpfcfaaDoor.Sk Go.Proofs.YtheambpddpfcfaaDoor.Sc Go.Proofs.YtheambpddpfcfaaDoor.Sxa Go.Proofs.YtheambpddpfcfaaDoor.Sh Go.Proofs.YtheambpddpfcfaaDoor.Sn Go.Proofs.YtheambpddpfcfaaDoor.Sw0 Go.Proofs.YtheambpddpfcfaaDoor.So Go.Proofs.YtheambpddpfcfaaDoor.St Go.Proofs.YtheambpddpfcfaaDoor.Ap Go.Proofs.YtheambpddpfcfaaDoor.Sr

theorem strN_data (M : List Nat) (h : All8 M) : (strN M).data.map (fun b => Value.int .u8 (b.toNat : Int)) = (b8 M).toArray := by
  unfold strN strOfNums b8
  simp only [List.map_map, List.map_toArray]
  congr 1
  apply List.map_congr_left
  intro x hx
  have := h x hx
  simp only [Function.comp, Int.toNat_natCast, UInt8.toNat_ofNat']
  congr 1
  omega
/-- []byte(s) -/
theorem conv_bytes (w : World) (M : List Nat) (h : All8 M) (hm : M.length ≤ 70368744177664) : ∃ cap w', Sem.run Tryd.prog (convert 9 22 (.string (strN M))) w = .ok (.slice (some ⟨w.heap.size, 0, none⟩) M.length cap) w' ∧ Dst w' w.heap.size M.length cap M ∧ Below w.heap.size w w' := by
  have hr := run_bytes_of_string (P := Tryd.prog) w 9 22 5 (strN M) Tryd.underlying9 Tryd.underlying22 Tryd.underlying5
  have hsz : (strN M).size = M.length := Srt.strN_size M
  rw [hsz] at hr
  have hge := grownCap_ge w M.length 0 5
  have hle := grownCap_le_maxLen w M.length 0 5 (by unfold maxLen; omega)
  generalize grownCap w M.length 0 5 = q at hr hge hle
  have e : bytesRow (strN M) q = (b8 M).toArray ++ Array.replicate (q - M.length) (Value.int .u8 0) := by
    unfold bytesRow
    rw [strN_data M h, hsz]
  rw [e] at hr
  have hn := dst_new w.drew M (Array.replicate (q - M.length) (Value.int .u8 0)) 5 (((b8 M).toArray ++ Array.replicate (q - M.length) (Value.int .u8 0)).size, ((b8 M).toArray ++ Array.replicate (q - M.length) (Value.int .u8 0)).size + 1) (.inr (by simp [b8_length])) h (by simp; omega)
  rw [Array.size_replicate, show M.length + (q - M.length) = q by omega] at hn
  exact ⟨q, _, hr, hn, (Below.refl _ _).drew.alloc (Nat.le_refl _) _⟩
/-- Words of 64 bits as cells. -/
def u64s (L : List Nat) : Array Value := (L.map fun x : Nat => Value.int .u64 (x : Int)).toArray
theorem u64s_size (L : List Nat) : (u64s L).size = L.length := by simp [u64s]
theorem u64s_at (L : List Nat) (i : Nat) (h : i < L.length) : (u64s L)[i]? = some (.int .u64 ((L.getD i 0 : Nat) : Int)) := by simp [u64s, List.getD, h]
theorem u64s_set (L : List Nat) (i x : Nat) : (u64s L).setIfInBounds i (.int .u64 (x : Int)) = u64s (L.set i x) := by simp [u64s, List.map_set]
theorem row64 {w : World} {B i : Nat} {X : List Nat} {T : TypeId} {f : Nat × Nat} (h : w.heap[B]? = some (.cells (u64s X) T f)) (hi : i < X.length) : w.cell? ⟨B, i, none⟩ = some (.int .u64 ((X.getD i 0 : Nat) : Int)) := blk_cell h (u64s_at X i hi)
theorem right_eq (x n : Nat) (hx : x < 4294967296) (hn : 1 ≤ n) (hn' : n ≤ 31) : (bits BinOp.or IntKind.u64 ((x : Int) / 2 ^ n) (IntKind.u64.wrap ((x : Int) * 2 ^ (32 - n)))).tmod 4294967296 = (rotr x n : Int) := by
  have e1 : ((x : Int) / 2 ^ n) = ((x >>> n : Nat) : Int) := by rw [Nat.shiftRight_eq_div_pow, Int.natCast_ediv, Int.natCast_pow]; rfl
  have hb : x <<< (32 - n) < 18446744073709551616 := by
    rw [Nat.shiftLeft_eq]
    have h2 : 2 ^ (32 - n) ≤ 2 ^ 31 := Nat.pow_le_pow_right (by decide) (by omega)
    have h3 : x * 2 ^ (32 - n) ≤ 4294967295 * 2 ^ 31 := Nat.mul_le_mul (by omega) h2
    omega
  have e2 : IntKind.u64.wrap ((x : Int) * 2 ^ (32 - n)) = ((x <<< (32 - n) : Nat) : Int) := by
    have e3 : (x : Int) * 2 ^ (32 - n) = ((x <<< (32 - n) : Nat) : Int) := by rw [Nat.shiftLeft_eq, Int.natCast_mul, Int.natCast_pow]; rfl
    rw [e3, IntKind.wrap_u64]
    generalize x <<< (32 - n) = y at hb
    omega
  have h1 := shr_lt (n := n) hx
  rw [e1, e2, u64_or_nat _ _ (Nat.lt_trans h1 (by omega)) hb, Int.tmod_eq_emod_of_nonneg (Int.natCast_nonneg _), ← right_is x n hx]
  rfl
theorem right_c (x n : Nat) (w : World) (hx : x < 4294967296) (hn : 1 ≤ n) (hn' : n ≤ 31) :
    Calls Tryd.prog 102 #[.int .u64 (x : Int), .int .i64 (n : Int)] w fun e w' => e = .returned (.int .u64 (rotr x n : Int)) ∧ ∃ k, w' = w.drewN k := by
  have h1 : (0 : Int) ≤ (n : Int) := by omega
  have h2 : (n : Int) < 64 := by omega
  have h3 : (0 : Int) ≤ 32 - (n : Int) := by omega
  have h4 : (32 : Int) - (n : Int) < 64 := by omega
  go_enter Tryd.func102, Tryd.ntmps102
  have hw : IntKind.i64.wrap (32 - (n : Int)) = 32 - (n : Int) := IntWalk.i64_in _ (by omega)
  go_wp2
  go_quiet (fail)
  go_wp2
  go_ret
  refine ⟨?_, nq, rfl⟩
  show Ending.returned (.int .u64 ((bits BinOp.or IntKind.u64 ((x : Int) / 2 ^ n) (IntKind.u64.wrap ((x : Int) * 2 ^ (32 - n)))).tmod 4294967296)) = _
  rw [right_eq x n hx hn hn']
theorem parts_c (w : World) : Calls Tryd.prog 101 #[] w fun e w' => e = .returned (.slice (some ⟨w.heap.size, 0, none⟩) 64 64) ∧ w.alloc (.cells (u64s Ks) 174) = w' := by
  go_enter Tryd.func101, Tryd.ntmps101
  go_wp2
  go_ret
  exact ⟨rfl, rfl⟩
end Go.Proofs.YtheambpddpfcfaaDoor.Srf0
/- Rows of bytes that are known whole: stored, loaded, returned. -/
namespace Go.Proofs.YtheambpddpfcfaaDoor.Sv
set_option linter.unusedVariables false
set_option linter.unusedSimpArgs false
set_option maxRecDepth 100000
open Go.ChangeShapes Go.WideShapes Go.ChangeAt Go.RowKit
open Go.Proofs.YtheambpddpfcfaaDoor.Wu Go.Proofs.YtheambpddpfcfaaDoor.Sm Go.Proofs.YtheambpddpfcfaaDoor.Sk Go.Proofs.YtheambpddpfcfaaDoor.Sc Go.Proofs.YtheambpddpfcfaaDoor.Sxa Go.Proofs.YtheambpddpfcfaaDoor.Sh Go.Proofs.YtheambpddpfcfaaDoor.Sn Go.Proofs.YtheambpddpfcfaaDoor.Sw0 Go.Proofs.YtheambpddpfcfaaDoor.Sx Go.Proofs.YtheambpddpfcfaaDoor.Sw Go.Proofs.YtheambpddpfcfaaDoor.Sb Go.Proofs.YtheambpddpfcfaaDoor.Sf

theorem setCells_other {B k : Nat} (hk : k ≠ B) : ∀ (vs : List Value) (o : Nat) (w : World), (w.setCells B o vs).heap[k]? = w.heap[k]?
  | [], _, _ => rfl
  | v :: vs, o, w => by
    rw [World.setCells, setCells_other hk vs (o + 1)]
    exact Below.heap_setCell _ _ _ _ hk
theorem grown_setCells {B : Nat} : ∀ (vs : List Value) (o : Nat) (w : World), w.grownBy (w.setCells B o vs) (some B)
  | [], _, w => World.grownBy.refl w _
  | v :: vs, o, w => by
    rw [World.setCells]
    exact grown_trans (grown_setCell (World.grownBy.refl w (some B)) o v) (grown_setCells vs (o + 1) _)
theorem wpList_store_whole {P : Program} {ops : Array Oper} {rest : List Oper} {op : Oper} {a : Act} {w : World} {Q : Exit → Act → World → Prop} (hgd : op.guard = none) (ty : TypeId) (x y : Operand) (ho : op.op = .store ty x y)
    (b : Nat) (X Y : List Nat) (T : TypeId) (hx : a.eval x = .pointer (some ⟨b, 0, none⟩)) (hy : a.eval y = .agg (u8s X)) (hg : w.heap[b]? = some (.cells (u8s Y) T (0, 0))) (hl : X.length = Y.length)
    (hi : (P.info? ty).map (·.size) = some X.length)
    (h : ∀ w', Hid (w'.heap[b]? = some (.cells (u8s X) T (0, 0))) → Hid (w.grownBy w' (some b)) → Hid (wpList P ops Q rest (a.put op.dst undef) w')) : wpList P ops Q (op :: rest) a w :=
  wpList_store_mid hgd ty x y ho b 0 (u8s X) hx hy (by rw [u8s_size, hl]; exact there8 hg) (by rw [u8s_size]; exact hi) (u8s_one X) (h _ (set_all8 X Y hg hl) (grown_setCells _ _ _))
theorem wpList_load_whole {P : Program} {ops : Array Oper} {rest : List Oper} {op : Oper} {a : Act} {w : World} {Q : Exit → Act → World → Prop} (hgd : op.guard = none) (ty : TypeId) (x : Operand) (ho : op.op = .load ty x)
    (b : Nat) (X : List Nat) (T : TypeId) (f : Nat × Nat) (hx : a.eval x = .pointer (some ⟨b, 0, none⟩)) (hg : w.heap[b]? = some (.cells (u8s X) T f)) (d : TypeDesc)
    (hu : P.underlying ty = some d) (hd : d.isRow = true) (hi : (P.info? ty).map (·.size) = some X.length)
    (h : wpList P ops Q rest (a.put op.dst (.agg (u8s X))) w) : wpList P ops Q (op :: rest) a w := by
  refine wpList_load_mid hgd ty x ho b 0 hx (u8s X).toList d (range8_all hg) hu hd (by rw [Array.length_toList, u8s_size]; exact hi) ?_
  rw [Array.toArray_toList]
  exact h
theorem ret_whole {P : Program} {fn : Func} {p : Tmp} {ty : TypeId} {R : Ending → World → Prop} {a : Act} {w : World} (hr : fn.results = #[.cell p ty]) (b : Nat) (X : List Nat) (T : TypeId) (f : Nat × Nat) (hp : a.tmps.getD p undef = .pointer (some ⟨b, 0, none⟩))
    (hg : w.heap[b]? = some (.cells (u8s X) T f)) (d : TypeDesc) (hu : P.underlying ty = some d) (hd : d.isRow = true) (hi : (P.info? ty).map (·.size) = some X.length) (hde : a.defers = []) (h : R (.returned (.agg (u8s X))) w) : bodyPost P fn R .ret a w := by
  refine bodyPost_ret (v := .agg (u8s X)) ?_ hde h
  rw [results_one_cell hr, hp]
  have h4 := run_loadVar_mid (P := P) w b 0 ty (u8s X).toList d (range8_all hg) hu hd (by rw [Array.length_toList, u8s_size]; exact hi)
  rw [Array.toArray_toList] at h4
  simpa [asAddr] using h4
/-- A block other than the one that turned. -/
theorem keepG {w w' : World} {g k : Nat} {x : Obj} (h : w.grownBy w' (some g)) (hk : k ≠ g) (hx : w.heap[k]? = some x) : w'.heap[k]? = some x :=
  (h.block k (heap_lt hx) (fun e => hk (by injection e))).trans hx
theorem belowG {w0 w w' : World} {g N : Nat} (hb : Below N w0 w) (h : w.grownBy w' (some g)) (hN : N ≤ g) (hs : N ≤ w.heap.size) : Below N w0 w' :=
  hb.trans ⟨h.os, h.tape, h.output, h.size, fun k hk => h.block k (by omega) (fun e => by injection e with e; omega)⟩
end Go.Proofs.YtheambpddpfcfaaDoor.Sv
/- The reference's memory while it sums. -/
namespace Go.Proofs.YtheambpddpfcfaaDoor.Srf1
set_option linter.unusedVariables false
set_option linter.unusedSimpArgs false
set_option maxRecDepth 100000
open Go.RowKit
open Go.Proofs.YtheambpddpfcfaaDoor.Wu Go.Proofs.YtheambpddpfcfaaDoor.Sm Go.Proofs.YtheambpddpfcfaaDoor.Sk Go.Proofs.YtheambpddpfcfaaDoor.Sc Go.Proofs.YtheambpddpfcfaaDoor.Sxa Go.Proofs.YtheambpddpfcfaaDoor.Sh Go.Proofs.YtheambpddpfcfaaDoor.Sn Go.Proofs.YtheambpddpfcfaaDoor.Sw0 Go.Proofs.YtheambpddpfcfaaDoor.Sf Go.Proofs.YtheambpddpfcfaaDoor.So Go.Proofs.YtheambpddpfcfaaDoor.Sv Go.Proofs.YtheambpddpfcfaaDoor.Ap Go.Proofs.YtheambpddpfcfaaDoor.Sr Go.Proofs.YtheambpddpfcfaaDoor.Srf0

/-- What lies where: the words of the rounds, the state, the message, the result's cell. -/
structure Env (w wr : World) (KB HB g n cap : Nat) (PM : List Nat) (s : S8) : Prop where
  ks : wr.heap[KB]? = some (.cells (u64s Ks) 174 (0, 0))
  hs : wr.heap[HB]? = some (.cells (u64s s.list) 174 (0, 0))
  msg : Dst wr g n cap PM
  res : wr.heap[w.heap.size]? = some (.cells (u8s (zeros 32)) 61 (0, 0))
  below : Below w.heap.size w wr
section
variable {w wr wr' : World} {KB HB g n cap : Nat} {PM : List Nat} {s : S8}
theorem Env.grown {k : Nat} (h : Env w wr KB HB g n cap PM s) (hg : wr.grownBy wr' (some k)) (h1 : KB ≠ k) (h2 : HB ≠ k) (h3 : g ≠ k) (h4 : w.heap.size < k) : Env w wr' KB HB g n cap PM s :=
  ⟨keepG hg h1 h.ks, keepG hg h2 h.hs, h.msg.kept hg h3, keepG hg (by omega) h.res, belowG h.below hg (by omega) h.below.size⟩
theorem Env.up (h : Env w wr KB HB g n cap PM s) (hb : Below wr.heap.size wr wr') : Env w wr' KB HB g n cap PM s :=
  ⟨below_blk hb (heap_lt h.ks) h.ks, below_blk hb (heap_lt h.hs) h.hs, h.msg.below hb h.msg.lt, below_blk hb (heap_lt h.res) h.res, keepB hb (Nat.le_refl _) h.below⟩
theorem Env.drewN (h : Env w wr KB HB g n cap PM s) (k : Nat) : Env w (wr.drewN k) KB HB g n cap PM s := ⟨h.ks, h.hs, ⟨h.msg.len, h.msg.all, h.msg.fit, h.msg.max, h.msg.lt, h.msg.cells, h.msg.spare⟩, h.res, below_drewN h.below k⟩
theorem Env.lts (h : Env w wr KB HB g n cap PM s) : KB < wr.heap.size ∧ HB < wr.heap.size ∧ g < wr.heap.size ∧ w.heap.size < wr.heap.size := ⟨heap_lt h.ks, heap_lt h.hs, h.msg.lt, heap_lt h.res⟩
end
/-- A word out of so many of its bytes. -/
def acc (L : List Nat) (i : Nat) : Nat → Nat
  | 0 => 0
  | c + 1 => acc L i c * 256 + L.getD (4 * i + c) 0
theorem acc_lt {L : List Nat} (h : All8 L) (i : Nat) : ∀ c, c ≤ 4 → acc L i c < 256 ^ c
  | 0, _ => by simp [acc]
  | c + 1, hc => by
    have h1 := acc_lt h i c (by omega)
    have h2 := all8_getD h (4 * i + c)
    rw [acc, Nat.pow_succ]
    have : acc L i c * 256 + 256 ≤ 256 ^ c * 256 := by rw [← Nat.succ_mul]; exact Nat.mul_le_mul_right _ h1
    omega
theorem acc_four (L : List Nat) (i : Nat) : acc L i 4 = w16 L i := by
  simp only [acc, w16, wd, Nat.add_zero, Nat.zero_mul, Nat.zero_add]; omega
theorem acc_bd {L : List Nat} (h : All8 L) (i c : Nat) (hc : c < 4) : acc L i c < 16777216 := by
  have := acc_lt h i c (by omega)
  have h2 : 256 ^ c ≤ 256 ^ 3 := Nat.pow_le_pow_right (by decide) (by omega)
  omega
/-- The words' row: i words, and c bytes of the next one. -/
def wRow (L : List Nat) (i c : Nat) : List Nat := (W16 L).take i ++ acc L i c :: zeros (63 - i)
theorem wRow_length (L : List Nat) (i c : Nat) (hi : i < 16) : (wRow L i c).length = 64 := by simp [wRow, W16_length, zeros]; omega
theorem wRow_at (L : List Nat) (i c : Nat) (hi : i < 16) : (wRow L i c).getD i 0 = acc L i c := by
  have hl : ((W16 L).take i).length = i := by rw [List.length_take, W16_length]; omega
  simp only [wRow, List.getD]
  rw [List.getElem?_append_right (by omega), hl, Nat.sub_self]; rfl
theorem wRow_step (L : List Nat) (i c : Nat) (hi : i < 16) : (wRow L i c).set i (acc L i c * 256 + L.getD (4 * i + c) 0) = wRow L i (c + 1) := by
  have hl : ((W16 L).take i).length = i := by rw [List.length_take, W16_length]; omega
  unfold wRow
  rw [List.set_append_right _ _ (by omega), hl, Nat.sub_self, List.set_cons_zero]
  rfl
theorem wRow_next (L : List Nat) (i : Nat) (hi : i < 15) : wRow L i 4 = wRow L (i + 1) 0 := by
  unfold wRow
  rw [acc_four, W16_take L i (by omega), show 63 - i = (63 - (i + 1)) + 1 by omega]
  simp [acc, zeros, List.replicate_succ]
theorem wRow_zero (L : List Nat) : wRow L 0 0 = zeros 64 := by simp [wRow, acc, zeros]
/-- The row at the head of the words' loop. -/
def wHead (L : List Nat) (i : Nat) : List Nat := (W16 L).take i ++ zeros (64 - i)
theorem wHead_row (L : List Nat) (i : Nat) (hi : i < 16) : wHead L i = wRow L i 0 := by
  unfold wHead wRow
  rw [show 64 - i = (63 - i) + 1 by omega]
  rfl
theorem wRow_head (L : List Nat) (i : Nat) (hi : i < 16) : wRow L i 4 = wHead L (i + 1) := by
  unfold wRow wHead
  rw [acc_four, W16_take L i hi, show 64 - (i + 1) = 63 - i by omega]
  simp
theorem wHead_end (L : List Nat) : wHead L 16 = ext 0 (W16 L) ++ zeros 48 := by
  unfold wHead; rw [List.take_of_length_le (by rw [W16_length]; omega)]; rfl
theorem blk_getD (PM : List Nat) (q i : Nat) (hi : i < 64) : (blk PM q).getD i 0 = PM.getD (64 * q + i) 0 := by
  unfold blk
  simp only [List.getD, List.getElem?_take_of_lt hi, List.getElem?_drop]
theorem all8_blk {PM : List Nat} (h : All8 PM) (q : Nat) : All8 (blk PM q) := all8_take (all8_drop h _) _
theorem wpList_buildSlice_to {P : Program} {ops : Array Oper} {rest : List Oper} {o : Oper} {a : Act} {w : World} {Q : Exit → Act → World → Prop} (hg : o.guard = none) (t : TypeId) (len : Nat) (parts : Array (Nat × Operand)) (ho : o.op = .buildSlice t len parts)
    (d : Option Tmp) (hd : o.dst = d) (vals : Array (Nat × Value)) (hv : (parts.map fun (i, x) => (i, a.eval x)) = vals) (v : Value) (w' : World) (hr : Sem.run P (Instr.buildSlice t len vals) w = .ok v w')
    (h : Hid (wpList P ops Q rest (a.put d v) w')) : wpList P ops Q (o :: rest) a w := by
  subst hd hv
  refine wpList_plain hg fun K hK => ?_
  unfold Oper.wp
  have e : (execOp a.eval o).run P w = .ok (.value v) w' := by
    unfold execOp
    simp only [ho]
    simp only [Sem.run_bind, Sem.run_pure]
    rw [hr]
    rfl
  rw [e]
  exact hK _ _ h
theorem build_h0 (u : World) : Sem.run Tryd.prog (Instr.buildSlice 180 8 #[(0, .int .u64 1779033703), (1, .int .u64 3144134277), (2, .int .u64 1013904242), (3, .int .u64 2773480762), (4, .int .u64 1359893119), (5, .int .u64 2600822924), (6, .int .u64 528734635), (7, .int .u64 1541459225)]) u = .ok (.slice (some ⟨u.heap.size, 0, none⟩) 8 8) (u.alloc (.cells (u64s H0.list) 174)) := by kernel_rfl
theorem build_s8 (u : World) (a b c d e f g h : Int) : Sem.run Tryd.prog (Instr.buildSlice 180 8 #[(0, .int .u64 a), (1, .int .u64 b), (2, .int .u64 c), (3, .int .u64 d), (4, .int .u64 e), (5, .int .u64 f), (6, .int .u64 g), (7, .int .u64 h)]) u = .ok (.slice (some ⟨u.heap.size, 0, none⟩) 8 8) (u.alloc (.cells #[.int .u64 a, .int .u64 b, .int .u64 c, .int .u64 d, .int .u64 e, .int .u64 f, .int .u64 g, .int .u64 h] 174)) := by kernel_rfl
end Go.Proofs.YtheambpddpfcfaaDoor.Srf1
/- The loops of the reference's Of, taken out of its text; its memory with the words' row. -/
namespace Go.Proofs.YtheambpddpfcfaaDoor.Sza
set_option linter.unusedVariables false
set_option linter.unusedSimpArgs false
set_option maxRecDepth 100000
open Go.RowKit
open Go.Proofs.YtheambpddpfcfaaDoor.Wu Go.Proofs.YtheambpddpfcfaaDoor.Sm Go.Proofs.YtheambpddpfcfaaDoor.Sk Go.Proofs.YtheambpddpfcfaaDoor.Sc Go.Proofs.YtheambpddpfcfaaDoor.Sxa Go.Proofs.YtheambpddpfcfaaDoor.Sh Go.Proofs.YtheambpddpfcfaaDoor.Sn Go.Proofs.YtheambpddpfcfaaDoor.Sw0 Go.Proofs.YtheambpddpfcfaaDoor.Sf Go.Proofs.YtheambpddpfcfaaDoor.So Go.Proofs.YtheambpddpfcfaaDoor.Sv Go.Proofs.YtheambpddpfcfaaDoor.Ap Go.Proofs.YtheambpddpfcfaaDoor.Sr Go.Proofs.YtheambpddpfcfaaDoor.Srf0 Go.Proofs.YtheambpddpfcfaaDoor.Srf1
def loops : Code → List Code
  | .loop c => .loop c :: loops c
  | .seq a b => loops a ++ loops b
  | .block _ c => loops c
  | .scope c => loops c
  | .cond _ a b => loops a ++ loops b
  | _ => []
noncomputable def lc (k : Nat) : Code := (((Tryd.f81.body.map loops).getD [])[k]?).getD .skip
/-- The memory, and the words' row. -/
structure E2 (w wr : World) (KB HB g nb cap : Nat) (PM : List Nat) (s : S8) (WB : Nat) (row : List Nat) : Prop where
  env : Env w wr KB HB g (64 * nb) cap PM s
  row : wr.heap[WB]? = some (.cells (u64s row) 174 (0, 0))
  nk : KB ≠ WB
  nh : HB ≠ WB
  ng : g ≠ WB
  nr : w.heap.size < WB
section
variable {w wr wr' : World} {KB HB g nb cap : Nat} {PM : List Nat} {s : S8} {WB : Nat} {row row' : List Nat}
theorem E2.step {i x : Nat} (h : E2 w wr KB HB g nb cap PM s WB row) (hr : row.set i x = row') (hi : i < row.length) : ∀ k : Nat, E2 w ((wr.drewN k).setCell ⟨WB, i, none⟩ (.int .u64 (x : Int))) KB HB g nb cap PM s WB row' := by
  intro k
  refine ⟨(h.env.drewN k).grown (grown_setCell (World.grownBy.refl _ (some WB)) i _) h.nk h.nh h.ng h.nr, ?_, h.nk, h.nh, h.ng, h.nr⟩
  have h1 : (wr.drewN k).heap[WB]? = some (.cells (u64s row) 174 (0, 0)) := h.row
  rw [blk_set h1, u64s_set, hr]
theorem E2.up (h : E2 w wr KB HB g nb cap PM s WB row) (hb : Below wr.heap.size wr wr') : E2 w wr' KB HB g nb cap PM s WB row :=
  ⟨h.env.up hb, below_blk hb (heap_lt h.row) h.row, h.nk, h.nh, h.ng, h.nr⟩
end
theorem drewN_add (w : World) (a b : Nat) : (w.drewN a).drewN b = w.drewN (a + b) := by simp [World.drewN, Nat.add_assoc]
theorem xor3 (a b c : Nat) (ha : a < 4294967296) (hb : b < 4294967296) (hc : c < 4294967296) : bits BinOp.xor IntKind.u64 (bits BinOp.xor IntKind.u64 (a : Int) (b : Int)) (c : Int) = ((a ^^^ b ^^^ c : Nat) : Int) := by
  have h := xor_lt ha hb
  rw [u64_xor_nat a b (by omega) (by omega), u64_xor_nat (a ^^^ b) c (by omega) (by omega)]
theorem shr_int (x n : Nat) : (x : Int) / ((2 ^ n : Nat) : Int) = ((x >>> n : Nat) : Int) := by rw [Nat.shiftRight_eq_div_pow, Int.natCast_ediv]
theorem word_eq (A X B Y : Nat) (hA : A < 4294967296) (hX : X < 4294967296) (hB : B < 4294967296) (hY : Y < 4294967296) :
    (IntKind.u64.wrap (IntKind.u64.wrap (IntKind.u64.wrap ((A : Int) + bits BinOp.xor IntKind.u64 (bits BinOp.xor IntKind.u64 ((rotr X 7 : Nat) : Int) ((rotr X 18 : Nat) : Int)) ((X : Int) / 8)) + (B : Int)) + bits BinOp.xor IntKind.u64 (bits BinOp.xor IntKind.u64 ((rotr Y 17 : Nat) : Int) ((rotr Y 19 : Nat) : Int)) ((Y : Int) / 1024))).tmod 4294967296 = (((A + lS0 X + B + lS1 Y) % 4294967296 : Nat) : Int) := by
  have e1 : (X : Int) / (8 : Int) = ((X >>> 3 : Nat) : Int) := by rw [Nat.shiftRight_eq_div_pow]; show _ = ((X / 8 : Nat) : Int); omega
  have e2 : (Y : Int) / (1024 : Int) = ((Y >>> 10 : Nat) : Int) := by rw [Nat.shiftRight_eq_div_pow]; show _ = ((Y / 1024 : Nat) : Int); omega
  rw [e1, e2, xor3 _ _ _ (rotr_lt hX) (rotr_lt hX) (shr_lt hX), xor3 _ _ _ (rotr_lt hY) (rotr_lt hY) (shr_lt hY)]
  have h1 := lS0_lt hX
  have h2 := lS1_lt hY
  unfold lS0 at h1 ⊢
  unfold lS1 at h2 ⊢
  generalize rotr X 7 ^^^ rotr X 18 ^^^ X >>> 3 = p at *
  generalize rotr Y 17 ^^^ rotr Y 19 ^^^ Y >>> 10 = r at *
  rw [IntKind.wrap_u64, IntKind.wrap_u64, IntKind.wrap_u64, Int.tmod_eq_emod_of_nonneg (by omega)]
  omega
/-- The row while it is filled: 16 + j words. -/
def eRow (L : List Nat) (j : Nat) : List Nat := ext j (W16 L) ++ zeros (48 - j)
theorem eRow_zero (L : List Nat) : wHead L 16 = eRow L 0 := wHead_end L
theorem eRow_end (L : List Nat) : eRow L 48 = sched L := by unfold eRow sched; simp [zeros]
theorem eRow_length (L : List Nat) (j : Nat) (h : j ≤ 48) : (eRow L j).length = 64 := by unfold eRow; rw [List.length_append, ext_length, W16_length, zeros_length]; omega
theorem eRow_at (L : List Nat) (j k : Nat) (h : k < 16 + j) : (eRow L j).getD k 0 = (ext j (W16 L)).getD k 0 := getD_left _ _ _ (by rw [ext_length, W16_length]; exact h)
theorem eRow_step (L : List Nat) (j : Nat) (h : j < 48) : (eRow L j).set (16 + j) (nxt (ext j (W16 L))) = eRow L (j + 1) := by
  unfold eRow
  have e : 16 + j = (ext j (W16 L)).length := by rw [ext_length, W16_length]
  rw [e, show 48 - j = (48 - (j + 1)) + 1 by omega]
  exact set_grow _ _ _
theorem nxt_is (L : List Nat) (j : Nat) : nxt (ext j (W16 L)) = ((eRow L j).getD j 0 + lS0 ((eRow L j).getD (j + 1) 0) + (eRow L j).getD (j + 9) 0 + lS1 ((eRow L j).getD (j + 14) 0)) % 4294967296 := by
  unfold nxt
  rw [ext_length, W16_length, eRow_at L j j (by omega), eRow_at L j (j + 1) (by omega), eRow_at L j (j + 9) (by omega), eRow_at L j (j + 14) (by omega)]
  rw [show 16 + j - 2 = j + 14 by omega, show 16 + j - 7 = j + 9 by omega, show 16 + j - 15 = j + 1 by omega, show 16 + j - 16 = j by omega]
  congr 1
  omega
theorem eRow_all {L : List Nat} (h : All8 L) (j : Nat) : All32 (eRow L j) := by
  intro x hx
  rcases List.mem_append.1 hx with h1 | h1
  · exact ext_all (W16_all h) j x h1
  · rw [List.eq_of_mem_replicate h1]; omega
theorem chs_eq (e f g : Nat) (he : e < 4294967296) (hf : f < 4294967296) (hg : g < 4294967296) : bits BinOp.or IntKind.u64 (bits BinOp.and IntKind.u64 (e : Int) (f : Int)) (bits BinOp.and IntKind.u64 (IntKind.u64.wrap (IntKind.u64.wrap 4294967295 - (e : Int))) (g : Int)) = ((chs e f g : Nat) : Int) := by
  have e1 : IntKind.u64.wrap (IntKind.u64.wrap 4294967295 - (e : Int)) = ((4294967295 - e : Nat) : Int) := by rw [IntKind.wrap_u64, IntKind.wrap_u64]; omega
  have h1 := and_lt (x := e) hf
  have h2 := and_lt (x := 4294967295 - e) hg
  rw [e1, u64_and_nat _ _ (by omega) (by omega), u64_and_nat _ _ (by omega) (by omega), u64_or_nat _ _ (by omega) (by omega), chs_or e f g he hf hg]
theorem maj_eq (a b c : Nat) (ha : a < 4294967296) (hb : b < 4294967296) (hc : c < 4294967296) : bits BinOp.or IntKind.u64 (bits BinOp.or IntKind.u64 (bits BinOp.and IntKind.u64 (a : Int) (b : Int)) (bits BinOp.and IntKind.u64 (a : Int) (c : Int))) (bits BinOp.and IntKind.u64 (b : Int) (c : Int)) = ((maj a b c : Nat) : Int) := by
  have h1 := and_lt (x := a) hb
  have h2 := and_lt (x := a) hc
  have h3 := and_lt (x := b) hc
  have h4 := or_lt h1 h2
  rw [u64_and_nat _ _ (by omega) (by omega), u64_and_nat _ _ (by omega) (by omega), u64_and_nat _ _ (by omega) (by omega), u64_or_nat _ _ (by omega) (by omega), u64_or_nat _ _ (by omega) (by omega), maj_or]
theorem one_eq (h e C K X : Nat) (hh : h < 4294967296) (he : e < 4294967296) (hC : C < 4294967296) (hK : K < 4294967296) (hX : X < 4294967296) :
    IntKind.u64.wrap (IntKind.u64.wrap (IntKind.u64.wrap (IntKind.u64.wrap ((h : Int) + bits BinOp.xor IntKind.u64 (bits BinOp.xor IntKind.u64 ((rotr e 6 : Nat) : Int) ((rotr e 11 : Nat) : Int)) ((rotr e 25 : Nat) : Int)) + (C : Int)) + (K : Int)) + (X : Int)) = ((h + bS1 e + C + K + X : Nat) : Int) := by
  rw [xor3 _ _ _ (rotr_lt he) (rotr_lt he) (rotr_lt he)]
  have h1 := bS1_lt he
  unfold bS1 at h1 ⊢
  generalize rotr e 6 ^^^ rotr e 11 ^^^ rotr e 25 = p at *
  rw [IntKind.wrap_u64, IntKind.wrap_u64, IntKind.wrap_u64, IntKind.wrap_u64]
  omega
theorem two_eq (a M : Nat) (ha : a < 4294967296) (hM : M < 4294967296) :
    IntKind.u64.wrap (bits BinOp.xor IntKind.u64 (bits BinOp.xor IntKind.u64 ((rotr a 2 : Nat) : Int) ((rotr a 13 : Nat) : Int)) ((rotr a 22 : Nat) : Int) + (M : Int)) = ((bS0 a + M : Nat) : Int) := by
  rw [xor3 _ _ _ (rotr_lt ha) (rotr_lt ha) (rotr_lt ha)]
  have h1 := bS0_lt ha
  unfold bS0 at h1 ⊢
  generalize rotr a 2 ^^^ rotr a 13 ^^^ rotr a 22 = p at *
  rw [IntKind.wrap_u64]
  omega
theorem sum_eq2 (a b : Nat) (ha : a < 68719476736) (hb : b < 68719476736) : (IntKind.u64.wrap ((a : Int) + (b : Int))).tmod 4294967296 = (((a + b) % 4294967296 : Nat) : Int) := by
  rw [IntKind.wrap_u64, Int.tmod_eq_emod_of_nonneg (by omega)]
  omega
/-- Eight words at the beginning of a block. -/
structure V8 (wr : World) (VB : Nat) (t : S8) : Prop where
  a : wr.cell? ⟨VB, 0, none⟩ = some (.int .u64 (t.a : Int))
  b : wr.cell? ⟨VB, 1, none⟩ = some (.int .u64 (t.b : Int))
  c : wr.cell? ⟨VB, 2, none⟩ = some (.int .u64 (t.c : Int))
  d : wr.cell? ⟨VB, 3, none⟩ = some (.int .u64 (t.d : Int))
  e : wr.cell? ⟨VB, 4, none⟩ = some (.int .u64 (t.e : Int))
  f : wr.cell? ⟨VB, 5, none⟩ = some (.int .u64 (t.f : Int))
  g : wr.cell? ⟨VB, 6, none⟩ = some (.int .u64 (t.g : Int))
  h : wr.cell? ⟨VB, 7, none⟩ = some (.int .u64 (t.h : Int))
theorem V8.drewN {wr : World} {VB : Nat} {t : S8} (h : V8 wr VB t) (k : Nat) : V8 (wr.drewN k) VB t := ⟨h.a, h.b, h.c, h.d, h.e, h.f, h.g, h.h⟩
theorem V8.up {wr wr' : World} {VB : Nat} {t : S8} (h : V8 wr VB t) (hb : Below wr.heap.size wr wr') : V8 wr' VB t :=
  ⟨keepC hb (Nat.le_refl _) h.a, keepC hb (Nat.le_refl _) h.b, keepC hb (Nat.le_refl _) h.c, keepC hb (Nat.le_refl _) h.d, keepC hb (Nat.le_refl _) h.e, keepC hb (Nat.le_refl _) h.f, keepC hb (Nat.le_refl _) h.g, keepC hb (Nat.le_refl _) h.h⟩
theorem V8.blk {wr : World} {VB : Nat} {t : S8} {T : TypeId} {f : Nat × Nat} (h : wr.heap[VB]? = some (.cells (u64s t.list) T f)) : V8 wr VB t :=
  ⟨blk_cell h rfl, blk_cell h rfl, blk_cell h rfl, blk_cell h rfl, blk_cell h rfl, blk_cell h rfl, blk_cell h rfl, blk_cell h rfl⟩
theorem E2.drewN {w wr : World} {KB HB g nb cap : Nat} {PM : List Nat} {s : S8} {WB : Nat} {row : List Nat} (h : E2 w wr KB HB g nb cap PM s WB row) (k : Nat) : E2 w (wr.drewN k) KB HB g nb cap PM s WB row := ⟨h.env.drewN k, h.row, h.nk, h.nh, h.ng, h.nr⟩
theorem step_is (ta tb tc td te tf tg th K X O T : Nat) (hO : O = th + bS1 te + chs te tf tg + K + X) (hT : T = bS0 ta + maj ta tb tc) :
    S8.step ⟨ta, tb, tc, td, te, tf, tg, th⟩ K X = ⟨(O + T) % 4294967296, ta, tb, tc, (td + O) % 4294967296, te, tf, tg⟩ := by
  unfold S8.step one two
  simp only
  rw [← hO, ← hT, ← Nat.add_mod, Nat.add_mod_mod]
theorem v8_new (wr : World) (T : TypeId) (a b c d e f g h : Nat) : V8 (wr.alloc (.cells #[.int .u64 (a : Int), .int .u64 (b : Int), .int .u64 (c : Int), .int .u64 (d : Int), .int .u64 (e : Int), .int .u64 (f : Int), .int .u64 (g : Int), .int .u64 (h : Int)] T)) wr.heap.size ⟨a, b, c, d, e, f, g, h⟩ :=
  have H := heap_last wr (.cells #[.int .u64 (a : Int), .int .u64 (b : Int), .int .u64 (c : Int), .int .u64 (d : Int), .int .u64 (e : Int), .int .u64 (f : Int), .int .u64 (g : Int), .int .u64 (h : Int)] T)
  ⟨blk_cell H rfl, blk_cell H rfl, blk_cell H rfl, blk_cell H rfl, blk_cell H rfl, blk_cell H rfl, blk_cell H rfl, blk_cell H rfl⟩
end Go.Proofs.YtheambpddpfcfaaDoor.Sza
/- The reference's words: a word out of its bytes. -/
namespace Go.Proofs.YtheambpddpfcfaaDoor.Sz5
set_option linter.unusedVariables false
set_option linter.unusedSimpArgs false
set_option maxRecDepth 1000000
open Go.ChangeShapes Go.WideShapes Go.ChangeAt Go.RowKit
open Go.Proofs.YtheambpddpfcfaaDoor.Wu Go.Proofs.YtheambpddpfcfaaDoor.Sm Go.Proofs.YtheambpddpfcfaaDoor.Sk Go.Proofs.YtheambpddpfcfaaDoor.Sc Go.Proofs.YtheambpddpfcfaaDoor.Sxa Go.Proofs.YtheambpddpfcfaaDoor.Sh Go.Proofs.YtheambpddpfcfaaDoor.Sn Go.Proofs.YtheambpddpfcfaaDoor.Sw0 Go.Proofs.YtheambpddpfcfaaDoor.Sf Go.Proofs.YtheambpddpfcfaaDoor.So Go.Proofs.YtheambpddpfcfaaDoor.Sv Go.Proofs.YtheambpddpfcfaaDoor.Ap Go.Proofs.YtheambpddpfcfaaDoor.Sr Go.Proofs.YtheambpddpfcfaaDoor.Srf0 Go.Proofs.YtheambpddpfcfaaDoor.Srf1 Go.Proofs.YtheambpddpfcfaaDoor.Rk Go.Proofs.YtheambpddpfcfaaDoor.Sza
attribute [local go_sem] kUpon_value kUpon_skip kUpon_enter
set_option maxHeartbeats 6400000 in
theorem loop5 (c0 c1 c4 c5 c13 c14 c15 c16 c17 c18 c19 c20 c21 c22 c23 c24 c25 c26 c27 c28 c29 c30 c31 c32 c33 c34 c35 c36 c37 c38 c39 c40 c41 c42 c43 c44 c45 c46 c47 c48 c49 c50 c51 c52 c53 c54 c55 c56 c57 c58 c59 c60 c61 c62 c63 c64 c88 c89 c90 c91 c92 c93 c94 c95 c96 c97 c98 c99 c100 c101 c102 c103 c104 c105 c106 c107 c108 c109 c110 c111 c112 c113 c114 c115 c116 c117 c118 c119 c120 c121 c122 c123 c124 c125 c126 c127 c128 c129 c130 c131 c132 c133 c134 c135 c136 c137 c138 c139 c140 c141 c142 c143 c144 c145 c146 c147 c148 c149 c150 c151 c152 c153 c154 c155 c156 c157 c158 c159 c160 c161 c162 c163 c164 c165 c166 c167 c168 c169 c170 c171 c172 c173 c174 c175 c176 c177 c178 c179 c180 c181 c182 c183 c184 c185 c186 c187 c188 c189 c190 c191 c192 c193 c194 c195 c196 c197 c198 c199 c200 c201 c202 c203 c204 c205 c206 c207 c208 c209 c210 c211 c212 c213 c214 c215 c216 c217 c218 c219 c220 c221 c222 c223 c224 c225 c226 c227 c228 c229 c230 c231 c232 c233 c234 c235 c236 c237 c238 c239 c240 c241 c242 c243 c244 c245 c246 c247 c248 c249 c250 c251 c252 c253 c254 c255 c256 c257 c258 c259 c260 c261 c262 c263 c264 c265 c266 c267 c268 c269 c270 c271 c272 c273 c274 c275 c276 c277 c278 c279 c280 c281 c282 c283 c284 c285 c286 c287 c288 c289 c290 c291 c292 c293 c294 c295 c296 c297 c298 u65 u66 u67 u68 u69 u70 u71 u72 u73 u74 u75 u76 u77 u78 u79 u80 u81 u82 u83 u84 u85 u86 u87 : Value) (w wr : World) (KB HB g nb cap q WB P n : Nat) (PM : List Nat) (s : S8) (Q : Exit → Act → World → Prop) (hP : P = 64 * q) (hn : n = 64 * nb) (i : Nat) (hE : E2 w wr KB HB g nb cap PM s WB (wRow (blk PM q) i 0)) (h8 : All8 PM) (hq : q < nb) (hnb : nb ≤ 40000) (hi : i < 16)
    (hexit : ∀ (x12 x65 x66 x67 x68 x69 x70 x71 x72 x73 x74 x75 x76 x77 x78 x79 x80 x81 x82 x83 x84 x85 x86 x87 : Value) (wx : World), E2 w wx KB HB g nb cap PM s WB (wRow (blk PM q) i 4) → Q (.exit 8) ⟨List.toArray (c0 :: c1 :: (.pointer (some ⟨w.heap.size, 0, none⟩) : Value) :: (.slice (some ⟨g, 0, none⟩) n cap : Value) :: c4 :: c5 :: (.slice (some ⟨KB, 0, none⟩) 64 64 : Value) :: (.int .u64 4294967296 : Value) :: (.slice (some ⟨HB, 0, none⟩) 8 8 : Value) :: (.int .i64 (P : Int) : Value) :: (.slice (some ⟨WB, 0, none⟩) 64 64 : Value) :: (.int .i64 ((i : Nat) : Int) : Value) :: x12 :: c13 :: c14 :: c15 :: c16 :: c17 :: c18 :: c19 :: c20 :: c21 :: c22 :: c23 :: c24 :: c25 :: c26 :: c27 :: c28 :: c29 :: c30 :: c31 :: c32 :: c33 :: c34 :: c35 :: c36 :: c37 :: c38 :: c39 :: c40 :: c41 :: c42 :: c43 :: c44 :: c45 :: c46 :: c47 :: c48 :: c49 :: c50 :: c51 :: c52 :: c53 :: c54 :: c55 :: c56 :: c57 :: c58 :: c59 :: c60 :: c61 :: c62 :: c63 :: c64 :: x65 :: x66 :: x67 :: x68 :: x69 :: x70 :: x71 :: x72 :: x73 :: x74 :: x75 :: x76 :: x77 :: x78 :: x79 :: x80 :: x81 :: x82 :: x83 :: x84 :: x85 :: x86 :: x87 :: c88 :: c89 :: c90 :: c91 :: c92 :: c93 :: c94 :: c95 :: c96 :: c97 :: c98 :: c99 :: c100 :: c101 :: c102 :: c103 :: c104 :: c105 :: c106 :: c107 :: c108 :: c109 :: c110 :: c111 :: c112 :: c113 :: c114 :: c115 :: c116 :: c117 :: c118 :: c119 :: c120 :: c121 :: c122 :: c123 :: c124 :: c125 :: c126 :: c127 :: c128 :: c129 :: c130 :: c131 :: c132 :: c133 :: c134 :: c135 :: c136 :: c137 :: c138 :: c139 :: c140 :: c141 :: c142 :: c143 :: c144 :: c145 :: c146 :: c147 :: c148 :: c149 :: c150 :: c151 :: c152 :: c153 :: c154 :: c155 :: c156 :: c157 :: c158 :: c159 :: c160 :: c161 :: c162 :: c163 :: c164 :: c165 :: c166 :: c167 :: c168 :: c169 :: c170 :: c171 :: c172 :: c173 :: c174 :: c175 :: c176 :: c177 :: c178 :: c179 :: c180 :: c181 :: c182 :: c183 :: c184 :: c185 :: c186 :: c187 :: c188 :: c189 :: c190 :: c191 :: c192 :: c193 :: c194 :: c195 :: c196 :: c197 :: c198 :: c199 :: c200 :: c201 :: c202 :: c203 :: c204 :: c205 :: c206 :: c207 :: c208 :: c209 :: c210 :: c211 :: c212 :: c213 :: c214 :: c215 :: c216 :: c217 :: c218 :: c219 :: c220 :: c221 :: c222 :: c223 :: c224 :: c225 :: c226 :: c227 :: c228 :: c229 :: c230 :: c231 :: c232 :: c233 :: c234 :: c235 :: c236 :: c237 :: c238 :: c239 :: c240 :: c241 :: c242 :: c243 :: c244 :: c245 :: c246 :: c247 :: c248 :: c249 :: c250 :: c251 :: c252 :: c253 :: c254 :: c255 :: c256 :: c257 :: c258 :: c259 :: c260 :: c261 :: c262 :: c263 :: c264 :: c265 :: c266 :: c267 :: c268 :: c269 :: c270 :: c271 :: c272 :: c273 :: c274 :: c275 :: c276 :: c277 :: c278 :: c279 :: c280 :: c281 :: c282 :: c283 :: c284 :: c285 :: c286 :: c287 :: c288 :: c289 :: c290 :: c291 :: c292 :: c293 :: c294 :: c295 :: c296 :: c297 :: c298 :: []), []⟩ wx) :
    Code.wp Tryd.prog (lc 4) Q ⟨List.toArray (c0 :: c1 :: (.pointer (some ⟨w.heap.size, 0, none⟩) : Value) :: (.slice (some ⟨g, 0, none⟩) n cap : Value) :: c4 :: c5 :: (.slice (some ⟨KB, 0, none⟩) 64 64 : Value) :: (.int .u64 4294967296 : Value) :: (.slice (some ⟨HB, 0, none⟩) 8 8 : Value) :: (.int .i64 (P : Int) : Value) :: (.slice (some ⟨WB, 0, none⟩) 64 64 : Value) :: (.int .i64 ((i : Nat) : Int) : Value) :: (.int .i64 0 : Value) :: c13 :: c14 :: c15 :: c16 :: c17 :: c18 :: c19 :: c20 :: c21 :: c22 :: c23 :: c24 :: c25 :: c26 :: c27 :: c28 :: c29 :: c30 :: c31 :: c32 :: c33 :: c34 :: c35 :: c36 :: c37 :: c38 :: c39 :: c40 :: c41 :: c42 :: c43 :: c44 :: c45 :: c46 :: c47 :: c48 :: c49 :: c50 :: c51 :: c52 :: c53 :: c54 :: c55 :: c56 :: c57 :: c58 :: c59 :: c60 :: c61 :: c62 :: c63 :: c64 :: u65 :: u66 :: u67 :: u68 :: u69 :: u70 :: u71 :: u72 :: u73 :: u74 :: u75 :: u76 :: u77 :: u78 :: u79 :: u80 :: u81 :: u82 :: u83 :: u84 :: u85 :: u86 :: u87 :: c88 :: c89 :: c90 :: c91 :: c92 :: c93 :: c94 :: c95 :: c96 :: c97 :: c98 :: c99 :: c100 :: c101 :: c102 :: c103 :: c104 :: c105 :: c106 :: c107 :: c108 :: c109 :: c110 :: c111 :: c112 :: c113 :: c114 :: c115 :: c116 :: c117 :: c118 :: c119 :: c120 :: c121 :: c122 :: c123 :: c124 :: c125 :: c126 :: c127 :: c128 :: c129 :: c130 :: c131 :: c132 :: c133 :: c134 :: c135 :: c136 :: c137 :: c138 :: c139 :: c140 :: c141 :: c142 :: c143 :: c144 :: c145 :: c146 :: c147 :: c148 :: c149 :: c150 :: c151 :: c152 :: c153 :: c154 :: c155 :: c156 :: c157 :: c158 :: c159 :: c160 :: c161 :: c162 :: c163 :: c164 :: c165 :: c166 :: c167 :: c168 :: c169 :: c170 :: c171 :: c172 :: c173 :: c174 :: c175 :: c176 :: c177 :: c178 :: c179 :: c180 :: c181 :: c182 :: c183 :: c184 :: c185 :: c186 :: c187 :: c188 :: c189 :: c190 :: c191 :: c192 :: c193 :: c194 :: c195 :: c196 :: c197 :: c198 :: c199 :: c200 :: c201 :: c202 :: c203 :: c204 :: c205 :: c206 :: c207 :: c208 :: c209 :: c210 :: c211 :: c212 :: c213 :: c214 :: c215 :: c216 :: c217 :: c218 :: c219 :: c220 :: c221 :: c222 :: c223 :: c224 :: c225 :: c226 :: c227 :: c228 :: c229 :: c230 :: c231 :: c232 :: c233 :: c234 :: c235 :: c236 :: c237 :: c238 :: c239 :: c240 :: c241 :: c242 :: c243 :: c244 :: c245 :: c246 :: c247 :: c248 :: c249 :: c250 :: c251 :: c252 :: c253 :: c254 :: c255 :: c256 :: c257 :: c258 :: c259 :: c260 :: c261 :: c262 :: c263 :: c264 :: c265 :: c266 :: c267 :: c268 :: c269 :: c270 :: c271 :: c272 :: c273 :: c274 :: c275 :: c276 :: c277 :: c278 :: c279 :: c280 :: c281 :: c282 :: c283 :: c284 :: c285 :: c286 :: c287 :: c288 :: c289 :: c290 :: c291 :: c292 :: c293 :: c294 :: c295 :: c296 :: c297 :: c298 :: []), []⟩ wr := by
  conv => arg 2; whnf
  have HE := hide hE
  have Hx := hide hexit
  clear hE hexit
  go_loopw [12] (fun c wr => ∃ k : Nat, c = .int .i64 (k : Int) ∧ k ≤ 4 ∧ E2 w wr KB HB g nb cap PM s WB (wRow (blk PM q) i k)) (fun c _ => 4 - (intOf c).toNat)
  case atStart => exact ⟨0, rfl, Nat.zero_le _, HE.out⟩
  case round =>
    clear HE
    obtain ⟨k, rfl, hk, hE⟩ := hrel
    have HE := hide hE
    clear hE
    by_cases hlt : k < 4
    · have a8 := all8_blk h8 q
      have hrow := HE.out.row
      have x0 : wr.cell? ⟨WB, i, none⟩ = some (.int .u64 ((acc (blk PM q) i k : Nat) : Int)) := by
        have := row64 hrow (i := i) (by rw [wRow_length _ _ _ hi]; omega)
        rw [wRow_at _ _ _ hi] at this
        exact this
      have y0 : wr.cell? ⟨g, 64 * q + 4 * i + k, none⟩ = some (.int .u8 (((blk PM q).getD (4 * i + k) 0 : Nat) : Int)) := by
        have := HE.out.env.msg.cell (i := 64 * q + 4 * i + k) (by omega)
        rw [this, blk_getD PM q (4 * i + k) (by omega), Nat.add_assoc]
      have z0 : wr.frozen? ⟨WB, i, none⟩ = false := blk_free hrow
      have hst := HE.out.step (wRow_step (blk PM q) i k hi) (by rw [wRow_length _ _ _ hi]; omega)
      have hacc := acc_bd a8 i k hlt
      have hby := all8_getD a8 (4 * i + k)
      generalize acc (blk PM q) i k = A at *
      generalize (blk PM q).getD (4 * i + k) 0 = Y at *
      have HSt := hide hst
      have X0 := hide x0
      have Y0 := hide y0
      clear hrow hst x0 y0
      have e1 : IntKind.i64.wrap (4 * (i : Int)) = 4 * (i : Int) := IntWalk.i64_in _ (by omega)
      have e2 : IntKind.i64.wrap ((P : Int) + 4 * (i : Int)) = (P : Int) + 4 * (i : Int) := IntWalk.i64_in _ (by omega)
      have e3 : IntKind.i64.wrap ((P : Int) + 4 * (i : Int) + (k : Int)) = (P : Int) + 4 * (i : Int) + (k : Int) := IntWalk.i64_in _ (by omega)
      have i1 : (0 : Int) ≤ (P : Int) + 4 * (i : Int) + (k : Int) := by omega
      have i2 : (P : Int) + 4 * (i : Int) + (k : Int) < (n : Int) := by omega
      have i3 : ((P : Int) + 4 * (i : Int) + (k : Int)).toNat = P + 4 * i + k := by omega
      have i4 : (i : Int) < 64 := by omega
      have hPn : P + 4 * i + k < n := by omega
      have e4 : IntKind.u64.wrap ((A : Int) * 256) = (A : Int) * 256 := by rw [IntKind.wrap_u64]; omega
      have e5 : IntKind.u64.wrap ((A : Int) * 256 + (Y : Int)) = (A : Int) * 256 + (Y : Int) := by rw [IntKind.wrap_u64]; omega
      have e6 : IntKind.u64.wrap (Y : Int) = (Y : Int) := by rw [IntKind.wrap_u64]; omega
      rw [← hP] at Y0
      have HP := hide hP
      have HN := hide hn
      clear hP hn
      go_wp2_with fail
      have mixed : Tryd.prog.follows Departure.mixedOrders = true := by kernel_rfl
      refine wp_region_keep_tail 19 (fun u => ∃ k, u = wr.drewN k) mixed (by kernel_rfl) ⟨1, rfl⟩ ?_
      simp only [List.take_succ_cons, List.take_zero]
      repeat (first
        | (refine keep_step (v := ?_) (by rfl) (fun u K hS hK => ?_) ?_
           rotate_left
           · obtain ⟨nn, rfl⟩ := hS
             have x1 : (wr.drewN nn).cell? ⟨WB, i, none⟩ = _ := X0.out
             have y1 : (wr.drewN nn).cell? ⟨g, P + 4 * i + k, none⟩ = _ := Y0.out
             (go_simp; with_reducible exact hK _ ⟨nn, rfl⟩)
           simp only [Act.put, List.setIfInBounds_toArray, List.set_cons_zero, List.set_cons_succ]))
      refine keep_nil (fun w3 hS3 => ?_)
      obtain ⟨k3, rfl⟩ := hS3
      simp only [List.drop_succ_cons, List.drop_zero]
      have hst := HSt.out k3
      have x2 : (wr.drewN k3).cell? ⟨WB, i, none⟩ = _ := X0.out
      have z2 : (wr.drewN k3).frozen? ⟨WB, i, none⟩ = false := z0
      have eA : ((A * 256 + Y : Nat) : Int) = (A : Int) * 256 + (Y : Int) := by omega
      rw [eA] at hst
      have HS2 := hide hst
      clear hst eA e1 e2 e3 e4 e5 e6 i1 i2 i3 HSt X0 Y0 HE z0
      generalize wr.drewN k3 = w3 at *
      go_wp2
      go_roundw
      case rel => exact ⟨k + 1, by go_num, by omega, HS2.out⟩
      case measure => simp [intOf]; omega
    · have hk4 : k = 4 := by omega
      subst hk4
      have hx := Hx.out
      go_wp2
      exact HE.out
end Go.Proofs.YtheambpddpfcfaaDoor.Sz5
/- The reference's words: sixteen out of the block's bytes. -/
namespace Go.Proofs.YtheambpddpfcfaaDoor.Sz4
set_option linter.unusedVariables false
set_option linter.unusedSimpArgs false
set_option maxRecDepth 1000000
open Go.ChangeShapes Go.WideShapes Go.ChangeAt Go.RowKit
open Go.Proofs.YtheambpddpfcfaaDoor.Wu Go.Proofs.YtheambpddpfcfaaDoor.Sm Go.Proofs.YtheambpddpfcfaaDoor.Sk Go.Proofs.YtheambpddpfcfaaDoor.Sc Go.Proofs.YtheambpddpfcfaaDoor.Sxa Go.Proofs.YtheambpddpfcfaaDoor.Sh Go.Proofs.YtheambpddpfcfaaDoor.Sn Go.Proofs.YtheambpddpfcfaaDoor.Sw0 Go.Proofs.YtheambpddpfcfaaDoor.Sf Go.Proofs.YtheambpddpfcfaaDoor.So Go.Proofs.YtheambpddpfcfaaDoor.Sv Go.Proofs.YtheambpddpfcfaaDoor.Ap Go.Proofs.YtheambpddpfcfaaDoor.Sr Go.Proofs.YtheambpddpfcfaaDoor.Srf0 Go.Proofs.YtheambpddpfcfaaDoor.Srf1 Go.Proofs.YtheambpddpfcfaaDoor.Rk Go.Proofs.YtheambpddpfcfaaDoor.Sza
attribute [local go_sem] kUpon_value kUpon_skip kUpon_enter
set_option maxHeartbeats 6400000 in
theorem loop4 (c0 c1 c4 c5 c13 c14 c15 c16 c17 c18 c19 c20 c21 c22 c23 c24 c25 c26 c27 c28 c29 c30 c31 c32 c33 c34 c35 c36 c37 c38 c39 c40 c41 c42 c43 c44 c45 c46 c47 c48 c49 c50 c51 c52 c53 c54 c55 c56 c57 c58 c59 c60 c88 c89 c90 c91 c92 c93 c94 c95 c96 c97 c98 c99 c100 c101 c102 c103 c104 c105 c106 c107 c108 c109 c110 c111 c112 c113 c114 c115 c116 c117 c118 c119 c120 c121 c122 c123 c124 c125 c126 c127 c128 c129 c130 c131 c132 c133 c134 c135 c136 c137 c138 c139 c140 c141 c142 c143 c144 c145 c146 c147 c148 c149 c150 c151 c152 c153 c154 c155 c156 c157 c158 c159 c160 c161 c162 c163 c164 c165 c166 c167 c168 c169 c170 c171 c172 c173 c174 c175 c176 c177 c178 c179 c180 c181 c182 c183 c184 c185 c186 c187 c188 c189 c190 c191 c192 c193 c194 c195 c196 c197 c198 c199 c200 c201 c202 c203 c204 c205 c206 c207 c208 c209 c210 c211 c212 c213 c214 c215 c216 c217 c218 c219 c220 c221 c222 c223 c224 c225 c226 c227 c228 c229 c230 c231 c232 c233 c234 c235 c236 c237 c238 c239 c240 c241 c242 c243 c244 c245 c246 c247 c248 c249 c250 c251 c252 c253 c254 c255 c256 c257 c258 c259 c260 c261 c262 c263 c264 c265 c266 c267 c268 c269 c270 c271 c272 c273 c274 c275 c276 c277 c278 c279 c280 c281 c282 c283 c284 c285 c286 c287 c288 c289 c290 c291 c292 c293 c294 c295 c296 c297 c298 u12 u61 u62 u63 u64 u65 u66 u67 u68 u69 u70 u71 u72 u73 u74 u75 u76 u77 u78 u79 u80 u81 u82 u83 u84 u85 u86 u87 : Value) (w wr : World) (KB HB g nb cap q WB P n : Nat) (PM : List Nat) (s : S8) (Q : Exit → Act → World → Prop) (hP : P = 64 * q) (hn : n = 64 * nb) (hE : E2 w wr KB HB g nb cap PM s WB (wHead (blk PM q) 0)) (h8 : All8 PM) (hq : q < nb) (hnb : nb ≤ 40000)
    (hexit : ∀ (x11 x12 x61 x62 x63 x64 x65 x66 x67 x68 x69 x70 x71 x72 x73 x74 x75 x76 x77 x78 x79 x80 x81 x82 x83 x84 x85 x86 x87 : Value) (wx : World), E2 w wx KB HB g nb cap PM s WB (wHead (blk PM q) 16) → Q (.exit 6) ⟨List.toArray (c0 :: c1 :: (.pointer (some ⟨w.heap.size, 0, none⟩) : Value) :: (.slice (some ⟨g, 0, none⟩) n cap : Value) :: c4 :: c5 :: (.slice (some ⟨KB, 0, none⟩) 64 64 : Value) :: (.int .u64 4294967296 : Value) :: (.slice (some ⟨HB, 0, none⟩) 8 8 : Value) :: (.int .i64 (P : Int) : Value) :: (.slice (some ⟨WB, 0, none⟩) 64 64 : Value) :: x11 :: x12 :: c13 :: c14 :: c15 :: c16 :: c17 :: c18 :: c19 :: c20 :: c21 :: c22 :: c23 :: c24 :: c25 :: c26 :: c27 :: c28 :: c29 :: c30 :: c31 :: c32 :: c33 :: c34 :: c35 :: c36 :: c37 :: c38 :: c39 :: c40 :: c41 :: c42 :: c43 :: c44 :: c45 :: c46 :: c47 :: c48 :: c49 :: c50 :: c51 :: c52 :: c53 :: c54 :: c55 :: c56 :: c57 :: c58 :: c59 :: c60 :: x61 :: x62 :: x63 :: x64 :: x65 :: x66 :: x67 :: x68 :: x69 :: x70 :: x71 :: x72 :: x73 :: x74 :: x75 :: x76 :: x77 :: x78 :: x79 :: x80 :: x81 :: x82 :: x83 :: x84 :: x85 :: x86 :: x87 :: c88 :: c89 :: c90 :: c91 :: c92 :: c93 :: c94 :: c95 :: c96 :: c97 :: c98 :: c99 :: c100 :: c101 :: c102 :: c103 :: c104 :: c105 :: c106 :: c107 :: c108 :: c109 :: c110 :: c111 :: c112 :: c113 :: c114 :: c115 :: c116 :: c117 :: c118 :: c119 :: c120 :: c121 :: c122 :: c123 :: c124 :: c125 :: c126 :: c127 :: c128 :: c129 :: c130 :: c131 :: c132 :: c133 :: c134 :: c135 :: c136 :: c137 :: c138 :: c139 :: c140 :: c141 :: c142 :: c143 :: c144 :: c145 :: c146 :: c147 :: c148 :: c149 :: c150 :: c151 :: c152 :: c153 :: c154 :: c155 :: c156 :: c157 :: c158 :: c159 :: c160 :: c161 :: c162 :: c163 :: c164 :: c165 :: c166 :: c167 :: c168 :: c169 :: c170 :: c171 :: c172 :: c173 :: c174 :: c175 :: c176 :: c177 :: c178 :: c179 :: c180 :: c181 :: c182 :: c183 :: c184 :: c185 :: c186 :: c187 :: c188 :: c189 :: c190 :: c191 :: c192 :: c193 :: c194 :: c195 :: c196 :: c197 :: c198 :: c199 :: c200 :: c201 :: c202 :: c203 :: c204 :: c205 :: c206 :: c207 :: c208 :: c209 :: c210 :: c211 :: c212 :: c213 :: c214 :: c215 :: c216 :: c217 :: c218 :: c219 :: c220 :: c221 :: c222 :: c223 :: c224 :: c225 :: c226 :: c227 :: c228 :: c229 :: c230 :: c231 :: c232 :: c233 :: c234 :: c235 :: c236 :: c237 :: c238 :: c239 :: c240 :: c241 :: c242 :: c243 :: c244 :: c245 :: c246 :: c247 :: c248 :: c249 :: c250 :: c251 :: c252 :: c253 :: c254 :: c255 :: c256 :: c257 :: c258 :: c259 :: c260 :: c261 :: c262 :: c263 :: c264 :: c265 :: c266 :: c267 :: c268 :: c269 :: c270 :: c271 :: c272 :: c273 :: c274 :: c275 :: c276 :: c277 :: c278 :: c279 :: c280 :: c281 :: c282 :: c283 :: c284 :: c285 :: c286 :: c287 :: c288 :: c289 :: c290 :: c291 :: c292 :: c293 :: c294 :: c295 :: c296 :: c297 :: c298 :: []), []⟩ wx) :
    Code.wp Tryd.prog (lc 3) Q ⟨List.toArray (c0 :: c1 :: (.pointer (some ⟨w.heap.size, 0, none⟩) : Value) :: (.slice (some ⟨g, 0, none⟩) n cap : Value) :: c4 :: c5 :: (.slice (some ⟨KB, 0, none⟩) 64 64 : Value) :: (.int .u64 4294967296 : Value) :: (.slice (some ⟨HB, 0, none⟩) 8 8 : Value) :: (.int .i64 (P : Int) : Value) :: (.slice (some ⟨WB, 0, none⟩) 64 64 : Value) :: (.int .i64 0 : Value) :: u12 :: c13 :: c14 :: c15 :: c16 :: c17 :: c18 :: c19 :: c20 :: c21 :: c22 :: c23 :: c24 :: c25 :: c26 :: c27 :: c28 :: c29 :: c30 :: c31 :: c32 :: c33 :: c34 :: c35 :: c36 :: c37 :: c38 :: c39 :: c40 :: c41 :: c42 :: c43 :: c44 :: c45 :: c46 :: c47 :: c48 :: c49 :: c50 :: c51 :: c52 :: c53 :: c54 :: c55 :: c56 :: c57 :: c58 :: c59 :: c60 :: u61 :: u62 :: u63 :: u64 :: u65 :: u66 :: u67 :: u68 :: u69 :: u70 :: u71 :: u72 :: u73 :: u74 :: u75 :: u76 :: u77 :: u78 :: u79 :: u80 :: u81 :: u82 :: u83 :: u84 :: u85 :: u86 :: u87 :: c88 :: c89 :: c90 :: c91 :: c92 :: c93 :: c94 :: c95 :: c96 :: c97 :: c98 :: c99 :: c100 :: c101 :: c102 :: c103 :: c104 :: c105 :: c106 :: c107 :: c108 :: c109 :: c110 :: c111 :: c112 :: c113 :: c114 :: c115 :: c116 :: c117 :: c118 :: c119 :: c120 :: c121 :: c122 :: c123 :: c124 :: c125 :: c126 :: c127 :: c128 :: c129 :: c130 :: c131 :: c132 :: c133 :: c134 :: c135 :: c136 :: c137 :: c138 :: c139 :: c140 :: c141 :: c142 :: c143 :: c144 :: c145 :: c146 :: c147 :: c148 :: c149 :: c150 :: c151 :: c152 :: c153 :: c154 :: c155 :: c156 :: c157 :: c158 :: c159 :: c160 :: c161 :: c162 :: c163 :: c164 :: c165 :: c166 :: c167 :: c168 :: c169 :: c170 :: c171 :: c172 :: c173 :: c174 :: c175 :: c176 :: c177 :: c178 :: c179 :: c180 :: c181 :: c182 :: c183 :: c184 :: c185 :: c186 :: c187 :: c188 :: c189 :: c190 :: c191 :: c192 :: c193 :: c194 :: c195 :: c196 :: c197 :: c198 :: c199 :: c200 :: c201 :: c202 :: c203 :: c204 :: c205 :: c206 :: c207 :: c208 :: c209 :: c210 :: c211 :: c212 :: c213 :: c214 :: c215 :: c216 :: c217 :: c218 :: c219 :: c220 :: c221 :: c222 :: c223 :: c224 :: c225 :: c226 :: c227 :: c228 :: c229 :: c230 :: c231 :: c232 :: c233 :: c234 :: c235 :: c236 :: c237 :: c238 :: c239 :: c240 :: c241 :: c242 :: c243 :: c244 :: c245 :: c246 :: c247 :: c248 :: c249 :: c250 :: c251 :: c252 :: c253 :: c254 :: c255 :: c256 :: c257 :: c258 :: c259 :: c260 :: c261 :: c262 :: c263 :: c264 :: c265 :: c266 :: c267 :: c268 :: c269 :: c270 :: c271 :: c272 :: c273 :: c274 :: c275 :: c276 :: c277 :: c278 :: c279 :: c280 :: c281 :: c282 :: c283 :: c284 :: c285 :: c286 :: c287 :: c288 :: c289 :: c290 :: c291 :: c292 :: c293 :: c294 :: c295 :: c296 :: c297 :: c298 :: []), []⟩ wr := by
  conv => arg 2; whnf
  have HE := hide hE
  have Hx := hide hexit
  clear hE hexit
  go_loopw [11] (fun c wr => ∃ k : Nat, c = .int .i64 (k : Int) ∧ k ≤ 16 ∧ E2 w wr KB HB g nb cap PM s WB (wHead (blk PM q) k)) (fun c _ => 16 - (intOf c).toNat)
  case atStart => exact ⟨0, rfl, Nat.zero_le _, HE.out⟩
  case round =>
    clear HE
    obtain ⟨k, rfl, hk, hE⟩ := hrel
    have HE := hide hE
    clear hE
    by_cases hlt : k < 16
    · have hE := HE.out
      rw [wHead_row _ _ hlt] at hE
      have HE := hide hE
      clear hE
      have d1 : decide ((k : Int) < 16) = true := by simp; omega
      have d1' : decide (k < 16) = true := by simp; omega
      go_wp2_with fail
      refine Sz5.loop5 _ _ _ _ _ _ _ _ _ _ _ _ _ _ _ _ _ _ _ _ _ _ _ _ _ _ _ _ _ _ _ _ _ _ _ _ _ _ _ _ _ _ _ _ _ _ _ _ _ _ _ _ _ _ _ _ _ _ _ _ _ _ _ _ _ _ _ _ _ _ _ _ _ _ _ _ _ _ _ _ _ _ _ _ _ _ _ _ _ _ _ _ _ _ _ _ _ _ _ _ _ _ _ _ _ _ _ _ _ _ _ _ _ _ _ _ _ _ _ _ _ _ _ _ _ _ _ _ _ _ _ _ _ _ _ _ _ _ _ _ _ _ _ _ _ _ _ _ _ _ _ _ _ _ _ _ _ _ _ _ _ _ _ _ _ _ _ _ _ _ _ _ _ _ _ _ _ _ _ _ _ _ _ _ _ _ _ _ _ _ _ _ _ _ _ _ _ _ _ _ _ _ _ _ _ _ _ _ _ _ _ _ _ _ _ _ _ _ _ _ _ _ _ _ _ _ _ _ _ _ _ _ _ _ _ _ _ _ _ _ _ _ _ _ _ _ _ _ _ _ _ _ _ _ _ _ _ _ _ _ _ _ _ _ _ _ _ _ _ _ _ _ _ _ _ _ _ _ _ _ _ _ _ _ _ _ _ _ _ _ w wr KB HB g nb cap q WB P n PM s _ hP hn k HE.out h8 hq hnb hlt ?_
      intro x12 x65 x66 x67 x68 x69 x70 x71 x72 x73 x74 x75 x76 x77 x78 x79 x80 x81 x82 x83 x84 x85 x86 x87 wx hx
      rw [wRow_head _ _ hlt] at hx
      have HX := hide hx
      clear hx HE
      go_wp2
      go_roundw
      case rel => exact ⟨k + 1, by go_num, by omega, HX.out⟩
      case measure => simp [intOf]; omega
    · have hk4 : k = 16 := by omega
      subst hk4
      have hx := Hx.out
      go_wp2
      exact HE.out
end Go.Proofs.YtheambpddpfcfaaDoor.Sz4
/- The reference's words: the others. -/
namespace Go.Proofs.YtheambpddpfcfaaDoor.Sz6
set_option linter.unusedVariables false
set_option linter.unusedSimpArgs false
set_option maxRecDepth 1000000
open Go.ChangeShapes Go.WideShapes Go.ChangeAt Go.RowKit
open Go.Proofs.YtheambpddpfcfaaDoor.Wu Go.Proofs.YtheambpddpfcfaaDoor.Sm Go.Proofs.YtheambpddpfcfaaDoor.Sk Go.Proofs.YtheambpddpfcfaaDoor.Sc Go.Proofs.YtheambpddpfcfaaDoor.Sxa Go.Proofs.YtheambpddpfcfaaDoor.Sh Go.Proofs.YtheambpddpfcfaaDoor.Sn Go.Proofs.YtheambpddpfcfaaDoor.Sw0 Go.Proofs.YtheambpddpfcfaaDoor.Sf Go.Proofs.YtheambpddpfcfaaDoor.So Go.Proofs.YtheambpddpfcfaaDoor.Sv Go.Proofs.YtheambpddpfcfaaDoor.Ap Go.Proofs.YtheambpddpfcfaaDoor.Sr Go.Proofs.YtheambpddpfcfaaDoor.Srf0 Go.Proofs.YtheambpddpfcfaaDoor.Srf1 Go.Proofs.YtheambpddpfcfaaDoor.Rk Go.Proofs.YtheambpddpfcfaaDoor.Sza
attribute [local go_sem] kUpon_value kUpon_skip kUpon_enter
set_option maxHeartbeats 6400000 in
theorem loop6 (c0 c1 c4 c5 c11 c12 c16 c17 c18 c19 c20 c21 c22 c23 c24 c25 c26 c27 c28 c29 c30 c31 c32 c33 c34 c35 c36 c37 c38 c39 c40 c41 c42 c43 c44 c45 c46 c47 c48 c49 c50 c51 c52 c53 c54 c55 c56 c57 c58 c59 c60 c61 c62 c63 c64 c65 c66 c67 c68 c69 c70 c71 c72 c73 c74 c75 c76 c77 c78 c79 c80 c81 c82 c83 c84 c85 c86 c87 c136 c137 c138 c139 c140 c141 c142 c143 c144 c145 c146 c147 c148 c149 c150 c151 c152 c153 c154 c155 c156 c157 c158 c159 c160 c161 c162 c163 c164 c165 c166 c167 c168 c169 c170 c171 c172 c173 c174 c175 c176 c177 c178 c179 c180 c181 c182 c183 c184 c185 c186 c187 c188 c189 c190 c191 c192 c193 c194 c195 c196 c197 c198 c199 c200 c201 c202 c203 c204 c205 c206 c207 c208 c209 c210 c211 c212 c213 c214 c215 c216 c217 c218 c219 c220 c221 c222 c223 c224 c225 c226 c227 c228 c229 c230 c231 c232 c233 c234 c235 c236 c237 c238 c239 c240 c241 c242 c243 c244 c245 c246 c247 c248 c249 c250 c251 c252 c253 c254 c255 c256 c257 c258 c259 c260 c261 c262 c263 c264 c265 c266 c267 c268 c269 c270 c271 c272 c273 c274 c275 c276 c277 c278 c279 c280 c281 c282 c283 c284 c285 c286 c287 c288 c289 c290 c291 c292 c293 c294 c295 c296 c297 c298 u14 u15 u88 u89 u90 u91 u92 u93 u94 u95 u96 u97 u98 u99 u100 u101 u102 u103 u104 u105 u106 u107 u108 u109 u110 u111 u112 u113 u114 u115 u116 u117 u118 u119 u120 u121 u122 u123 u124 u125 u126 u127 u128 u129 u130 u131 u132 u133 u134 u135 : Value) (w wr : World) (KB HB g nb cap q WB P n : Nat) (PM : List Nat) (s : S8) (Q : Exit → Act → World → Prop) (hP : P = 64 * q) (hn : n = 64 * nb) (hE : E2 w wr KB HB g nb cap PM s WB (eRow (blk PM q) 0)) (h8 : All8 PM)
    (hexit : ∀ (x13 x14 x15 x88 x89 x90 x91 x92 x93 x94 x95 x96 x97 x98 x99 x100 x101 x102 x103 x104 x105 x106 x107 x108 x109 x110 x111 x112 x113 x114 x115 x116 x117 x118 x119 x120 x121 x122 x123 x124 x125 x126 x127 x128 x129 x130 x131 x132 x133 x134 x135 : Value) (wx : World), E2 w wx KB HB g nb cap PM s WB (sched (blk PM q)) → Q (.exit 10) ⟨List.toArray (c0 :: c1 :: (.pointer (some ⟨w.heap.size, 0, none⟩) : Value) :: (.slice (some ⟨g, 0, none⟩) n cap : Value) :: c4 :: c5 :: (.slice (some ⟨KB, 0, none⟩) 64 64 : Value) :: (.int .u64 4294967296 : Value) :: (.slice (some ⟨HB, 0, none⟩) 8 8 : Value) :: (.int .i64 (P : Int) : Value) :: (.slice (some ⟨WB, 0, none⟩) 64 64 : Value) :: c11 :: c12 :: x13 :: x14 :: x15 :: c16 :: c17 :: c18 :: c19 :: c20 :: c21 :: c22 :: c23 :: c24 :: c25 :: c26 :: c27 :: c28 :: c29 :: c30 :: c31 :: c32 :: c33 :: c34 :: c35 :: c36 :: c37 :: c38 :: c39 :: c40 :: c41 :: c42 :: c43 :: c44 :: c45 :: c46 :: c47 :: c48 :: c49 :: c50 :: c51 :: c52 :: c53 :: c54 :: c55 :: c56 :: c57 :: c58 :: c59 :: c60 :: c61 :: c62 :: c63 :: c64 :: c65 :: c66 :: c67 :: c68 :: c69 :: c70 :: c71 :: c72 :: c73 :: c74 :: c75 :: c76 :: c77 :: c78 :: c79 :: c80 :: c81 :: c82 :: c83 :: c84 :: c85 :: c86 :: c87 :: x88 :: x89 :: x90 :: x91 :: x92 :: x93 :: x94 :: x95 :: x96 :: x97 :: x98 :: x99 :: x100 :: x101 :: x102 :: x103 :: x104 :: x105 :: x106 :: x107 :: x108 :: x109 :: x110 :: x111 :: x112 :: x113 :: x114 :: x115 :: x116 :: x117 :: x118 :: x119 :: x120 :: x121 :: x122 :: x123 :: x124 :: x125 :: x126 :: x127 :: x128 :: x129 :: x130 :: x131 :: x132 :: x133 :: x134 :: x135 :: c136 :: c137 :: c138 :: c139 :: c140 :: c141 :: c142 :: c143 :: c144 :: c145 :: c146 :: c147 :: c148 :: c149 :: c150 :: c151 :: c152 :: c153 :: c154 :: c155 :: c156 :: c157 :: c158 :: c159 :: c160 :: c161 :: c162 :: c163 :: c164 :: c165 :: c166 :: c167 :: c168 :: c169 :: c170 :: c171 :: c172 :: c173 :: c174 :: c175 :: c176 :: c177 :: c178 :: c179 :: c180 :: c181 :: c182 :: c183 :: c184 :: c185 :: c186 :: c187 :: c188 :: c189 :: c190 :: c191 :: c192 :: c193 :: c194 :: c195 :: c196 :: c197 :: c198 :: c199 :: c200 :: c201 :: c202 :: c203 :: c204 :: c205 :: c206 :: c207 :: c208 :: c209 :: c210 :: c211 :: c212 :: c213 :: c214 :: c215 :: c216 :: c217 :: c218 :: c219 :: c220 :: c221 :: c222 :: c223 :: c224 :: c225 :: c226 :: c227 :: c228 :: c229 :: c230 :: c231 :: c232 :: c233 :: c234 :: c235 :: c236 :: c237 :: c238 :: c239 :: c240 :: c241 :: c242 :: c243 :: c244 :: c245 :: c246 :: c247 :: c248 :: c249 :: c250 :: c251 :: c252 :: c253 :: c254 :: c255 :: c256 :: c257 :: c258 :: c259 :: c260 :: c261 :: c262 :: c263 :: c264 :: c265 :: c266 :: c267 :: c268 :: c269 :: c270 :: c271 :: c272 :: c273 :: c274 :: c275 :: c276 :: c277 :: c278 :: c279 :: c280 :: c281 :: c282 :: c283 :: c284 :: c285 :: c286 :: c287 :: c288 :: c289 :: c290 :: c291 :: c292 :: c293 :: c294 :: c295 :: c296 :: c297 :: c298 :: []), []⟩ wx) :
    Code.wp Tryd.prog (lc 5) Q ⟨List.toArray (c0 :: c1 :: (.pointer (some ⟨w.heap.size, 0, none⟩) : Value) :: (.slice (some ⟨g, 0, none⟩) n cap : Value) :: c4 :: c5 :: (.slice (some ⟨KB, 0, none⟩) 64 64 : Value) :: (.int .u64 4294967296 : Value) :: (.slice (some ⟨HB, 0, none⟩) 8 8 : Value) :: (.int .i64 (P : Int) : Value) :: (.slice (some ⟨WB, 0, none⟩) 64 64 : Value) :: c11 :: c12 :: (.int .i64 16 : Value) :: u14 :: u15 :: c16 :: c17 :: c18 :: c19 :: c20 :: c21 :: c22 :: c23 :: c24 :: c25 :: c26 :: c27 :: c28 :: c29 :: c30 :: c31 :: c32 :: c33 :: c34 :: c35 :: c36 :: c37 :: c38 :: c39 :: c40 :: c41 :: c42 :: c43 :: c44 :: c45 :: c46 :: c47 :: c48 :: c49 :: c50 :: c51 :: c52 :: c53 :: c54 :: c55 :: c56 :: c57 :: c58 :: c59 :: c60 :: c61 :: c62 :: c63 :: c64 :: c65 :: c66 :: c67 :: c68 :: c69 :: c70 :: c71 :: c72 :: c73 :: c74 :: c75 :: c76 :: c77 :: c78 :: c79 :: c80 :: c81 :: c82 :: c83 :: c84 :: c85 :: c86 :: c87 :: u88 :: u89 :: u90 :: u91 :: u92 :: u93 :: u94 :: u95 :: u96 :: u97 :: u98 :: u99 :: u100 :: u101 :: u102 :: u103 :: u104 :: u105 :: u106 :: u107 :: u108 :: u109 :: u110 :: u111 :: u112 :: u113 :: u114 :: u115 :: u116 :: u117 :: u118 :: u119 :: u120 :: u121 :: u122 :: u123 :: u124 :: u125 :: u126 :: u127 :: u128 :: u129 :: u130 :: u131 :: u132 :: u133 :: u134 :: u135 :: c136 :: c137 :: c138 :: c139 :: c140 :: c141 :: c142 :: c143 :: c144 :: c145 :: c146 :: c147 :: c148 :: c149 :: c150 :: c151 :: c152 :: c153 :: c154 :: c155 :: c156 :: c157 :: c158 :: c159 :: c160 :: c161 :: c162 :: c163 :: c164 :: c165 :: c166 :: c167 :: c168 :: c169 :: c170 :: c171 :: c172 :: c173 :: c174 :: c175 :: c176 :: c177 :: c178 :: c179 :: c180 :: c181 :: c182 :: c183 :: c184 :: c185 :: c186 :: c187 :: c188 :: c189 :: c190 :: c191 :: c192 :: c193 :: c194 :: c195 :: c196 :: c197 :: c198 :: c199 :: c200 :: c201 :: c202 :: c203 :: c204 :: c205 :: c206 :: c207 :: c208 :: c209 :: c210 :: c211 :: c212 :: c213 :: c214 :: c215 :: c216 :: c217 :: c218 :: c219 :: c220 :: c221 :: c222 :: c223 :: c224 :: c225 :: c226 :: c227 :: c228 :: c229 :: c230 :: c231 :: c232 :: c233 :: c234 :: c235 :: c236 :: c237 :: c238 :: c239 :: c240 :: c241 :: c242 :: c243 :: c244 :: c245 :: c246 :: c247 :: c248 :: c249 :: c250 :: c251 :: c252 :: c253 :: c254 :: c255 :: c256 :: c257 :: c258 :: c259 :: c260 :: c261 :: c262 :: c263 :: c264 :: c265 :: c266 :: c267 :: c268 :: c269 :: c270 :: c271 :: c272 :: c273 :: c274 :: c275 :: c276 :: c277 :: c278 :: c279 :: c280 :: c281 :: c282 :: c283 :: c284 :: c285 :: c286 :: c287 :: c288 :: c289 :: c290 :: c291 :: c292 :: c293 :: c294 :: c295 :: c296 :: c297 :: c298 :: []), []⟩ wr := by
  conv => arg 2; whnf
  have HE := hide hE
  have Hx := hide hexit
  clear hE hexit hP hn
  go_loopw [13] (fun c wr => ∃ j i : Nat, c = .int .i64 (i : Int) ∧ i = 16 + j ∧ j ≤ 48 ∧ E2 w wr KB HB g nb cap PM s WB (eRow (blk PM q) j)) (fun c _ => 64 - (intOf c).toNat)
  case atStart => exact ⟨0, 16, rfl, rfl, Nat.zero_le _, HE.out⟩
  case round =>
    clear HE
    obtain ⟨j, i, rfl, hi, hj, hE⟩ := hrel
    have HE := hide hE
    clear hE
    by_cases hlt : j < 48
    · have d1 : decide ((i : Int) < 64) = true := by simp; omega
      have d1' : decide (i < 64) = true := by simp; omega
      have hrow := HE.out.row
      have a32 := eRow_all (all8_blk h8 q) j
      have rl := eRow_length (blk PM q) j hj
      have x15 := row64 hrow (i := j + 1) (by rw [rl]; omega)
      have x2 := row64 hrow (i := j + 14) (by rw [rl]; omega)
      have x16 := row64 hrow (i := j) (by rw [rl]; omega)
      have x7 := row64 hrow (i := j + 9) (by rw [rl]; omega)
      have xi := row64 hrow (i := i) (by rw [rl]; omega)
      have zi : wr.frozen? ⟨WB, i, none⟩ = false := blk_free hrow
      have hnx := nxt_is (blk PM q) j
      have b15 := all32_getD a32 (j + 1)
      have b2 := all32_getD a32 (j + 14)
      have b16 := all32_getD a32 j
      have b7 := all32_getD a32 (j + 9)
      have hst := HE.out.step (eRow_step (blk PM q) j hlt) (by rw [rl]; omega)
      rw [hnx, ← hi] at hst
      generalize (eRow (blk PM q) j).getD (j + 1) 0 = X at *
      generalize (eRow (blk PM q) j).getD (j + 14) 0 = Y at *
      generalize (eRow (blk PM q) j).getD j 0 = A at *
      generalize (eRow (blk PM q) j).getD (j + 9) 0 = B at *
      generalize (eRow (blk PM q) j).getD i 0 = O at *
      have HSt := hide hst
      clear hst hnx a32 rl hrow
      have X15 : Hid (wr.cell? ⟨WB, i - 15, none⟩ = some (.int .u64 (X : Int))) := hide (by rw [show i - 15 = j + 1 by omega]; exact x15)
      have X2 : Hid (wr.cell? ⟨WB, i - 2, none⟩ = some (.int .u64 (Y : Int))) := hide (by rw [show i - 2 = j + 14 by omega]; exact x2)
      have X16 : Hid (wr.cell? ⟨WB, i - 16, none⟩ = some (.int .u64 (A : Int))) := hide (by rw [show i - 16 = j by omega]; exact x16)
      have X7 : Hid (wr.cell? ⟨WB, i - 7, none⟩ = some (.int .u64 (B : Int))) := hide (by rw [show i - 7 = j + 9 by omega]; exact x7)
      have XI := hide xi
      have hi1 : 16 ≤ i := by omega
      have hi2 : i < 64 := by omega
      have Hi := hide hi
      clear x15 x2 x16 x7 xi hi
      have e15 : IntKind.i64.wrap ((i : Int) - 15) = (i : Int) - 15 := IntWalk.i64_in _ (by omega)
      have e2 : IntKind.i64.wrap ((i : Int) - 2) = (i : Int) - 2 := IntWalk.i64_in _ (by omega)
      have e16 : IntKind.i64.wrap ((i : Int) - 16) = (i : Int) - 16 := IntWalk.i64_in _ (by omega)
      have e7 : IntKind.i64.wrap ((i : Int) - 7) = (i : Int) - 7 := IntWalk.i64_in _ (by omega)
      have n15 : (0 : Int) ≤ (i : Int) - 15 := by omega
      have n2 : (0 : Int) ≤ (i : Int) - 2 := by omega
      have n16 : (0 : Int) ≤ (i : Int) - 16 := by omega
      have n7 : (0 : Int) ≤ (i : Int) - 7 := by omega
      have m15 : (15 : Int) ≤ (i : Int) := by omega
      have m2 : (2 : Int) ≤ (i : Int) := by omega
      have m16 : (16 : Int) ≤ (i : Int) := by omega
      have m7 : (7 : Int) ≤ (i : Int) := by omega
      have li : (i : Int) < 64 := by omega
      have l15 : (i : Int) - 15 < 64 := by omega
      have l2 : (i : Int) - 2 < 64 := by omega
      have l16 : (i : Int) - 16 < 64 := by omega
      have l7 : (i : Int) - 7 < 64 := by omega
      have t15 : ((i : Int) - 15).toNat = i - 15 := by omega
      have t2 : ((i : Int) - 2).toNat = i - 2 := by omega
      have t16 : ((i : Int) - 16).toNat = i - 16 := by omega
      have t7 : ((i : Int) - 7).toNat = i - 7 := by omega
      go_wp2_with fail
      have mixed : Tryd.prog.follows Departure.mixedOrders = true := by kernel_rfl
      refine wp_region_keep (fun u => ∃ k, u = wr.drewN k) mixed (by kernel_rfl) ⟨1, rfl⟩ ?_
      repeat (first
        | (refine keep_step (v := ?_) (by rfl) (fun u K hS hK => ?_) ?_
           rotate_left
           · obtain ⟨nn, rfl⟩ := hS
             have y15 : (wr.drewN nn).cell? ⟨WB, i - 15, none⟩ = _ := X15.out
             have y2 : (wr.drewN nn).cell? ⟨WB, i - 2, none⟩ = _ := X2.out
             (go_simp; with_reducible exact hK _ ⟨nn, rfl⟩)
           simp only [Act.put, List.setIfInBounds_toArray, List.set_cons_zero, List.set_cons_succ]))
      refine keep_nil (fun w3 hS3 => ?_)
      obtain ⟨k3, rfl⟩ := hS3
      go_wp2_with fail
      have HR := hide (fun (x n k : Nat) (hx : x < 4294967296) (hn : 1 ≤ n) (hn' : n ≤ 31) => right_c x n (wr.drewN k) hx hn hn')
      refine wp_region_keep_tail 34 (fun u => ∃ k, u = wr.drewN k) mixed (by kernel_rfl) ⟨k3 + 1, rfl⟩ ?_
      simp only [List.take_succ_cons, List.take_zero]
      repeat (first
        | (refine keep_step (v := ?_) (by rfl) (fun u K hS hK => ?_) ?_
           rotate_left
           · obtain ⟨nn, rfl⟩ := hS
             have y16 : (wr.drewN nn).cell? ⟨WB, i - 16, none⟩ = _ := X16.out
             have y7 : (wr.drewN nn).cell? ⟨WB, i - 7, none⟩ = _ := X7.out
             (go_simp; first
               | (with_reducible exact hK _ ⟨nn, rfl⟩)
               | (go_at_call 102; (with_reducible refine Calls.mono (HR.out X 7 nn b15 (by omega) (by omega)) ?_); rintro e u2 ⟨rfl, kk, rfl⟩; exact hK _ ⟨nn + kk, drewN_add _ _ _⟩)
               | (go_at_call 102; (with_reducible refine Calls.mono (HR.out X 18 nn b15 (by omega) (by omega)) ?_); rintro e u2 ⟨rfl, kk, rfl⟩; exact hK _ ⟨nn + kk, drewN_add _ _ _⟩)
               | (go_at_call 102; (with_reducible refine Calls.mono (HR.out Y 17 nn b2 (by omega) (by omega)) ?_); rintro e u2 ⟨rfl, kk, rfl⟩; exact hK _ ⟨nn + kk, drewN_add _ _ _⟩)
               | (go_at_call 102; (with_reducible refine Calls.mono (HR.out Y 19 nn b2 (by omega) (by omega)) ?_); rintro e u2 ⟨rfl, kk, rfl⟩; exact hK _ ⟨nn + kk, drewN_add _ _ _⟩))
           simp only [Act.put, List.setIfInBounds_toArray, List.set_cons_zero, List.set_cons_succ]))
      refine keep_nil (fun w3 hS3 => ?_)
      obtain ⟨k4, rfl⟩ := hS3
      simp only [List.drop_succ_cons, List.drop_zero]
      have y3 : (wr.drewN k4).cell? ⟨WB, i, none⟩ = _ := XI.out
      have z2 : (wr.drewN k4).frozen? ⟨WB, i, none⟩ = false := zi
      have HS2 := hide (HSt.out k4)
      generalize wr.drewN k4 = w3 at *
      clear X15 X2 X16 X7 XI HE HR HSt
      go_wp2
      go_roundw
      case rel =>
        refine ⟨j + 1, i + 1, by go_num, by have := Hi.out; omega, by omega, ?_⟩
        rw [word_eq A X B Y b16 b15 b7 b2]
        exact HS2.out
      case measure => simp [intOf]; omega
    · have hj4 : j = 48 := by omega
      subst hj4
      subst hi
      have hE := HE.out
      rw [eRow_end] at hE
      have HE := hide hE
      clear hE
      have hx := Hx.out
      go_wp2
      exact HE.out
end Go.Proofs.YtheambpddpfcfaaDoor.Sz6
/- The reference's rounds. -/
namespace Go.Proofs.YtheambpddpfcfaaDoor.Sz7
set_option linter.unusedVariables false
set_option linter.unusedSimpArgs false
set_option maxRecDepth 1000000
open Go.ChangeShapes Go.WideShapes Go.ChangeAt Go.RowKit
open Go.Proofs.YtheambpddpfcfaaDoor.Wu Go.Proofs.YtheambpddpfcfaaDoor.Sm Go.Proofs.YtheambpddpfcfaaDoor.Sk Go.Proofs.YtheambpddpfcfaaDoor.Sc Go.Proofs.YtheambpddpfcfaaDoor.Sxa Go.Proofs.YtheambpddpfcfaaDoor.Sh Go.Proofs.YtheambpddpfcfaaDoor.Sn Go.Proofs.YtheambpddpfcfaaDoor.Sw0 Go.Proofs.YtheambpddpfcfaaDoor.Sf Go.Proofs.YtheambpddpfcfaaDoor.So Go.Proofs.YtheambpddpfcfaaDoor.Sv Go.Proofs.YtheambpddpfcfaaDoor.Ap Go.Proofs.YtheambpddpfcfaaDoor.Sr Go.Proofs.YtheambpddpfcfaaDoor.Srf0 Go.Proofs.YtheambpddpfcfaaDoor.Srf1 Go.Proofs.YtheambpddpfcfaaDoor.Rk Go.Proofs.YtheambpddpfcfaaDoor.Sza
attribute [local go_sem] kUpon_value kUpon_skip kUpon_enter
set_option maxHeartbeats 12800000 in
theorem loop7 (c0 c1 c4 c5 c11 c12 c13 c14 c15 c22 c23 c24 c25 c26 c27 c28 c29 c30 c31 c32 c33 c34 c35 c36 c37 c38 c39 c40 c41 c42 c43 c44 c45 c46 c47 c48 c49 c50 c51 c52 c53 c54 c55 c56 c57 c58 c59 c60 c61 c62 c63 c64 c65 c66 c67 c68 c69 c70 c71 c72 c73 c74 c75 c76 c77 c78 c79 c80 c81 c82 c83 c84 c85 c86 c87 c88 c89 c90 c91 c92 c93 c94 c95 c96 c97 c98 c99 c100 c101 c102 c103 c104 c105 c106 c107 c108 c109 c110 c111 c112 c113 c114 c115 c116 c117 c118 c119 c120 c121 c122 c123 c124 c125 c126 c127 c128 c129 c130 c131 c132 c133 c134 c135 c136 c137 c138 c261 c262 c263 c264 c265 c266 c267 c268 c269 c270 c271 c272 c273 c274 c275 c276 c277 c278 c279 c280 c281 c282 c283 c284 c285 c286 c287 c288 c289 c290 c291 c292 c293 c294 c295 c296 c297 c298 u18 u19 u20 u21 u139 u140 u141 u142 u143 u144 u145 u146 u147 u148 u149 u150 u151 u152 u153 u154 u155 u156 u157 u158 u159 u160 u161 u162 u163 u164 u165 u166 u167 u168 u169 u170 u171 u172 u173 u174 u175 u176 u177 u178 u179 u180 u181 u182 u183 u184 u185 u186 u187 u188 u189 u190 u191 u192 u193 u194 u195 u196 u197 u198 u199 u200 u201 u202 u203 u204 u205 u206 u207 u208 u209 u210 u211 u212 u213 u214 u215 u216 u217 u218 u219 u220 u221 u222 u223 u224 u225 u226 u227 u228 u229 u230 u231 u232 u233 u234 u235 u236 u237 u238 u239 u240 u241 u242 u243 u244 u245 u246 u247 u248 u249 u250 u251 u252 u253 u254 u255 u256 u257 u258 u259 u260 : Value) (w wr : World) (KB HB g nb cap q WB P n : Nat) (PM : List Nat) (s : S8) (Q : Exit → Act → World → Prop) (hP : P = 64 * q) (hn : n = 64 * nb) (VB vc : Nat) (hvc : 8 ≤ vc) (hvm : vc ≤ 9223372036854775807) (hE : E2 w wr KB HB g nb cap PM s WB (sched (blk PM q))) (hV : V8 wr VB s) (hs : s.ok) (h8 : All8 PM)
    (hexit : ∀ (x17 x18 x19 x20 x21 x139 x140 x141 x142 x143 x144 x145 x146 x147 x148 x149 x150 x151 x152 x153 x154 x155 x156 x157 x158 x159 x160 x161 x162 x163 x164 x165 x166 x167 x168 x169 x170 x171 x172 x173 x174 x175 x176 x177 x178 x179 x180 x181 x182 x183 x184 x185 x186 x187 x188 x189 x190 x191 x192 x193 x194 x195 x196 x197 x198 x199 x200 x201 x202 x203 x204 x205 x206 x207 x208 x209 x210 x211 x212 x213 x214 x215 x216 x217 x218 x219 x220 x221 x222 x223 x224 x225 x226 x227 x228 x229 x230 x231 x232 x233 x234 x235 x236 x237 x238 x239 x240 x241 x242 x243 x244 x245 x246 x247 x248 x249 x250 x251 x252 x253 x254 x255 x256 x257 x258 x259 x260 : Value) (vb vx : Nat) (wx : World), 8 ≤ vx → vx ≤ 9223372036854775807 → E2 w wx KB HB g nb cap PM s WB (sched (blk PM q)) → V8 wx vb (rounds (sched (blk PM q)) s 64) → vb ≠ HB → Q (.exit 12) ⟨List.toArray (c0 :: c1 :: (.pointer (some ⟨w.heap.size, 0, none⟩) : Value) :: (.slice (some ⟨g, 0, none⟩) n cap : Value) :: c4 :: c5 :: (.slice (some ⟨KB, 0, none⟩) 64 64 : Value) :: (.int .u64 4294967296 : Value) :: (.slice (some ⟨HB, 0, none⟩) 8 8 : Value) :: (.int .i64 (P : Int) : Value) :: (.slice (some ⟨WB, 0, none⟩) 64 64 : Value) :: c11 :: c12 :: c13 :: c14 :: c15 :: (.slice (some ⟨vb, 0, none⟩) 8 vx : Value) :: x17 :: x18 :: x19 :: x20 :: x21 :: c22 :: c23 :: c24 :: c25 :: c26 :: c27 :: c28 :: c29 :: c30 :: c31 :: c32 :: c33 :: c34 :: c35 :: c36 :: c37 :: c38 :: c39 :: c40 :: c41 :: c42 :: c43 :: c44 :: c45 :: c46 :: c47 :: c48 :: c49 :: c50 :: c51 :: c52 :: c53 :: c54 :: c55 :: c56 :: c57 :: c58 :: c59 :: c60 :: c61 :: c62 :: c63 :: c64 :: c65 :: c66 :: c67 :: c68 :: c69 :: c70 :: c71 :: c72 :: c73 :: c74 :: c75 :: c76 :: c77 :: c78 :: c79 :: c80 :: c81 :: c82 :: c83 :: c84 :: c85 :: c86 :: c87 :: c88 :: c89 :: c90 :: c91 :: c92 :: c93 :: c94 :: c95 :: c96 :: c97 :: c98 :: c99 :: c100 :: c101 :: c102 :: c103 :: c104 :: c105 :: c106 :: c107 :: c108 :: c109 :: c110 :: c111 :: c112 :: c113 :: c114 :: c115 :: c116 :: c117 :: c118 :: c119 :: c120 :: c121 :: c122 :: c123 :: c124 :: c125 :: c126 :: c127 :: c128 :: c129 :: c130 :: c131 :: c132 :: c133 :: c134 :: c135 :: c136 :: c137 :: c138 :: x139 :: x140 :: x141 :: x142 :: x143 :: x144 :: x145 :: x146 :: x147 :: x148 :: x149 :: x150 :: x151 :: x152 :: x153 :: x154 :: x155 :: x156 :: x157 :: x158 :: x159 :: x160 :: x161 :: x162 :: x163 :: x164 :: x165 :: x166 :: x167 :: x168 :: x169 :: x170 :: x171 :: x172 :: x173 :: x174 :: x175 :: x176 :: x177 :: x178 :: x179 :: x180 :: x181 :: x182 :: x183 :: x184 :: x185 :: x186 :: x187 :: x188 :: x189 :: x190 :: x191 :: x192 :: x193 :: x194 :: x195 :: x196 :: x197 :: x198 :: x199 :: x200 :: x201 :: x202 :: x203 :: x204 :: x205 :: x206 :: x207 :: x208 :: x209 :: x210 :: x211 :: x212 :: x213 :: x214 :: x215 :: x216 :: x217 :: x218 :: x219 :: x220 :: x221 :: x222 :: x223 :: x224 :: x225 :: x226 :: x227 :: x228 :: x229 :: x230 :: x231 :: x232 :: x233 :: x234 :: x235 :: x236 :: x237 :: x238 :: x239 :: x240 :: x241 :: x242 :: x243 :: x244 :: x245 :: x246 :: x247 :: x248 :: x249 :: x250 :: x251 :: x252 :: x253 :: x254 :: x255 :: x256 :: x257 :: x258 :: x259 :: x260 :: c261 :: c262 :: c263 :: c264 :: c265 :: c266 :: c267 :: c268 :: c269 :: c270 :: c271 :: c272 :: c273 :: c274 :: c275 :: c276 :: c277 :: c278 :: c279 :: c280 :: c281 :: c282 :: c283 :: c284 :: c285 :: c286 :: c287 :: c288 :: c289 :: c290 :: c291 :: c292 :: c293 :: c294 :: c295 :: c296 :: c297 :: c298 :: []), []⟩ wx) (hvh : VB ≠ HB) :
    Code.wp Tryd.prog (lc 6) Q ⟨List.toArray (c0 :: c1 :: (.pointer (some ⟨w.heap.size, 0, none⟩) : Value) :: (.slice (some ⟨g, 0, none⟩) n cap : Value) :: c4 :: c5 :: (.slice (some ⟨KB, 0, none⟩) 64 64 : Value) :: (.int .u64 4294967296 : Value) :: (.slice (some ⟨HB, 0, none⟩) 8 8 : Value) :: (.int .i64 (P : Int) : Value) :: (.slice (some ⟨WB, 0, none⟩) 64 64 : Value) :: c11 :: c12 :: c13 :: c14 :: c15 :: (.slice (some ⟨VB, 0, none⟩) 8 vc : Value) :: (.int .i64 0 : Value) :: u18 :: u19 :: u20 :: u21 :: c22 :: c23 :: c24 :: c25 :: c26 :: c27 :: c28 :: c29 :: c30 :: c31 :: c32 :: c33 :: c34 :: c35 :: c36 :: c37 :: c38 :: c39 :: c40 :: c41 :: c42 :: c43 :: c44 :: c45 :: c46 :: c47 :: c48 :: c49 :: c50 :: c51 :: c52 :: c53 :: c54 :: c55 :: c56 :: c57 :: c58 :: c59 :: c60 :: c61 :: c62 :: c63 :: c64 :: c65 :: c66 :: c67 :: c68 :: c69 :: c70 :: c71 :: c72 :: c73 :: c74 :: c75 :: c76 :: c77 :: c78 :: c79 :: c80 :: c81 :: c82 :: c83 :: c84 :: c85 :: c86 :: c87 :: c88 :: c89 :: c90 :: c91 :: c92 :: c93 :: c94 :: c95 :: c96 :: c97 :: c98 :: c99 :: c100 :: c101 :: c102 :: c103 :: c104 :: c105 :: c106 :: c107 :: c108 :: c109 :: c110 :: c111 :: c112 :: c113 :: c114 :: c115 :: c116 :: c117 :: c118 :: c119 :: c120 :: c121 :: c122 :: c123 :: c124 :: c125 :: c126 :: c127 :: c128 :: c129 :: c130 :: c131 :: c132 :: c133 :: c134 :: c135 :: c136 :: c137 :: c138 :: u139 :: u140 :: u141 :: u142 :: u143 :: u144 :: u145 :: u146 :: u147 :: u148 :: u149 :: u150 :: u151 :: u152 :: u153 :: u154 :: u155 :: u156 :: u157 :: u158 :: u159 :: u160 :: u161 :: u162 :: u163 :: u164 :: u165 :: u166 :: u167 :: u168 :: u169 :: u170 :: u171 :: u172 :: u173 :: u174 :: u175 :: u176 :: u177 :: u178 :: u179 :: u180 :: u181 :: u182 :: u183 :: u184 :: u185 :: u186 :: u187 :: u188 :: u189 :: u190 :: u191 :: u192 :: u193 :: u194 :: u195 :: u196 :: u197 :: u198 :: u199 :: u200 :: u201 :: u202 :: u203 :: u204 :: u205 :: u206 :: u207 :: u208 :: u209 :: u210 :: u211 :: u212 :: u213 :: u214 :: u215 :: u216 :: u217 :: u218 :: u219 :: u220 :: u221 :: u222 :: u223 :: u224 :: u225 :: u226 :: u227 :: u228 :: u229 :: u230 :: u231 :: u232 :: u233 :: u234 :: u235 :: u236 :: u237 :: u238 :: u239 :: u240 :: u241 :: u242 :: u243 :: u244 :: u245 :: u246 :: u247 :: u248 :: u249 :: u250 :: u251 :: u252 :: u253 :: u254 :: u255 :: u256 :: u257 :: u258 :: u259 :: u260 :: c261 :: c262 :: c263 :: c264 :: c265 :: c266 :: c267 :: c268 :: c269 :: c270 :: c271 :: c272 :: c273 :: c274 :: c275 :: c276 :: c277 :: c278 :: c279 :: c280 :: c281 :: c282 :: c283 :: c284 :: c285 :: c286 :: c287 :: c288 :: c289 :: c290 :: c291 :: c292 :: c293 :: c294 :: c295 :: c296 :: c297 :: c298 :: []), []⟩ wr := by
  conv => arg 2; whnf
  have HE := hide hE
  have HV := hide hV
  have Hx := hide hexit
  clear hE hV hexit hP hn
  go_loopw [17, 16] (fun c v wr => ∃ i VB vc : Nat, c = .int .i64 (i : Int) ∧ v = .slice (some ⟨VB, 0, none⟩) 8 vc ∧ i ≤ 64 ∧ 8 ≤ vc ∧ vc ≤ 9223372036854775807 ∧ VB ≠ HB ∧ E2 w wr KB HB g nb cap PM s WB (sched (blk PM q)) ∧ V8 wr VB (rounds (sched (blk PM q)) s i)) (fun c _ _ => 64 - (intOf c).toNat)
  case atStart => exact ⟨0, VB, vc, rfl, rfl, Nat.zero_le _, hvc, hvm, hvh, HE.out, HV.out⟩
  case round =>
    clear HE HV hvh hvc hvm
    obtain ⟨i, VB, vc, rfl, rfl, hi, hvc, hvm, hvh, hE, hV⟩ := hrel
    have HE := hide hE
    have HV := hide hV
    clear hE hV
    by_cases hlt : i < 64
    · have d1 : decide ((i : Int) < 64) = true := by simp; omega
      have d1' : decide (i < 64) = true := by simp; omega
      have li : (i : Int) < 64 := by omega
      have hsl := sched_length (blk PM q)
      have bW := all32_getD (sched_all (all8_blk h8 q)) i
      have bK := all32_getD Ks_all i
      have XW := hide (row64 HE.out.row (i := i) (by rw [hsl]; exact hlt))
      have XK := hide (row64 HE.out.env.ks (i := i) (by rw [Ks_length]; exact hlt))
      have hro : rounds (sched (blk PM q)) s (i + 1) = (rounds (sched (blk PM q)) s i).step (Ks.getD i 0) ((sched (blk PM q)).getD i 0) := rfl
      have HRo := hide hro
      have tok := rounds_ok hs (sched (blk PM q)) i
      generalize rounds (sched (blk PM q)) s i = t at *
      generalize (sched (blk PM q)).getD i 0 = X at *
      generalize Ks.getD i 0 = K at *
      obtain ⟨ba, bb, bc, bd, be, bf, bg, bh⟩ := S8.bd tok
      obtain ⟨ta, tb, tc, td, te, tf, tg, th⟩ := t
      simp only at ba bb bc bd be bf bg bh
      clear hro hsl tok
      go_wp2_with fail
      have mixed : Tryd.prog.follows Departure.mixedOrders = true := by kernel_rfl
      have HR := hide (fun (x n k : Nat) (hx : x < 4294967296) (hn : 1 ≤ n) (hn' : n ≤ 31) => right_c x n (wr.drewN k) hx hn hn')
      refine wp_region_keep (fun u => ∃ k, u = wr.drewN k) mixed (by kernel_rfl) ⟨1, rfl⟩ ?_
      repeat (first
        | (refine keep_step (v := ?_) (by rfl) (fun u K hS hK => ?_) ?_
           rotate_left
           · obtain ⟨nn, rfl⟩ := hS
             have ye : (wr.drewN nn).cell? ⟨VB, 4, none⟩ = _ := HV.out.e
             have yf : (wr.drewN nn).cell? ⟨VB, 5, none⟩ = _ := HV.out.f
             have yg : (wr.drewN nn).cell? ⟨VB, 6, none⟩ = _ := HV.out.g
             (go_simp; first
               | (with_reducible exact hK _ ⟨nn, rfl⟩))
           simp only [Act.put, List.setIfInBounds_toArray, List.set_cons_zero, List.set_cons_succ]))
      refine keep_nil (fun w3 hS3 => ?_)
      obtain ⟨k3, rfl⟩ := hS3
      rw [chs_eq te tf tg be bf bg]
      have bC := chs_lt (x := te) bf bg
      obtain ⟨C, hC⟩ : ∃ C, C = chs te tf tg := ⟨_, rfl⟩
      rw [← hC] at bC ⊢
      have HC := hide hC
      clear hC
      go_wp2_with fail
      refine wp_region_keep (fun u => ∃ k, u = wr.drewN k) mixed (by kernel_rfl) ⟨k3 + 1, rfl⟩ ?_
      repeat (first
        | (refine keep_step (v := ?_) (by rfl) (fun u K hS hK => ?_) ?_
           rotate_left
           · obtain ⟨nn, rfl⟩ := hS
             have ya : (wr.drewN nn).cell? ⟨VB, 0, none⟩ = _ := HV.out.a
             have yb : (wr.drewN nn).cell? ⟨VB, 1, none⟩ = _ := HV.out.b
             have yc : (wr.drewN nn).cell? ⟨VB, 2, none⟩ = _ := HV.out.c
             (go_simp; first
               | (with_reducible exact hK _ ⟨nn, rfl⟩))
           simp only [Act.put, List.setIfInBounds_toArray, List.set_cons_zero, List.set_cons_succ]))
      refine keep_nil (fun w3 hS3 => ?_)
      obtain ⟨k4, rfl⟩ := hS3
      rw [maj_eq ta tb tc ba bb bc]
      have bM := maj_lt (x := ta) bb bc
      obtain ⟨M, hM⟩ : ∃ M, M = maj ta tb tc := ⟨_, rfl⟩
      rw [← hM] at bM ⊢
      have HM := hide hM
      clear hM
      go_wp2_with fail
      refine wp_region_keep (fun u => ∃ k, u = wr.drewN k) mixed (by kernel_rfl) ⟨k4 + 1, rfl⟩ ?_
      repeat (first
        | (refine keep_step (v := ?_) (by rfl) (fun u K hS hK => ?_) ?_
           rotate_left
           · obtain ⟨nn, rfl⟩ := hS
             have yh : (wr.drewN nn).cell? ⟨VB, 7, none⟩ = _ := HV.out.h
             have ye : (wr.drewN nn).cell? ⟨VB, 4, none⟩ = _ := HV.out.e
             have yK : (wr.drewN nn).cell? ⟨KB, i, none⟩ = _ := XK.out
             have yW : (wr.drewN nn).cell? ⟨WB, i, none⟩ = _ := XW.out
             (go_simp; first
               | (with_reducible exact hK _ ⟨nn, rfl⟩)
               | (go_at_call 102; (with_reducible refine Calls.mono (HR.out te 6 nn be (by omega) (by omega)) ?_); rintro e u2 ⟨rfl, kk, rfl⟩; exact hK _ ⟨nn + kk, drewN_add _ _ _⟩)
               | (go_at_call 102; (with_reducible refine Calls.mono (HR.out te 11 nn be (by omega) (by omega)) ?_); rintro e u2 ⟨rfl, kk, rfl⟩; exact hK _ ⟨nn + kk, drewN_add _ _ _⟩)
               | (go_at_call 102; (with_reducible refine Calls.mono (HR.out te 25 nn be (by omega) (by omega)) ?_); rintro e u2 ⟨rfl, kk, rfl⟩; exact hK _ ⟨nn + kk, drewN_add _ _ _⟩))
           simp only [Act.put, List.setIfInBounds_toArray, List.set_cons_zero, List.set_cons_succ]))
      refine keep_nil (fun w3 hS3 => ?_)
      obtain ⟨k5, rfl⟩ := hS3
      rw [one_eq th te C K X bh be bC bK bW]
      have b1 := bS1_lt be
      obtain ⟨O, hO⟩ : ∃ O, O = th + bS1 te + C + K + X := ⟨_, rfl⟩
      rw [← hO]
      have bO : O < 68719476736 := by omega
      have HO := hide hO
      clear hO
      go_wp2_with fail
      refine wp_region_keep (fun u => ∃ k, u = wr.drewN k) mixed (by kernel_rfl) ⟨k5 + 1, rfl⟩ ?_
      repeat (first
        | (refine keep_step (v := ?_) (by rfl) (fun u K hS hK => ?_) ?_
           rotate_left
           · obtain ⟨nn, rfl⟩ := hS
             have ya : (wr.drewN nn).cell? ⟨VB, 0, none⟩ = _ := HV.out.a
             (go_simp; first
               | (with_reducible exact hK _ ⟨nn, rfl⟩)
               | (go_at_call 102; (with_reducible refine Calls.mono (HR.out ta 2 nn ba (by omega) (by omega)) ?_); rintro e u2 ⟨rfl, kk, rfl⟩; exact hK _ ⟨nn + kk, drewN_add _ _ _⟩)
               | (go_at_call 102; (with_reducible refine Calls.mono (HR.out ta 13 nn ba (by omega) (by omega)) ?_); rintro e u2 ⟨rfl, kk, rfl⟩; exact hK _ ⟨nn + kk, drewN_add _ _ _⟩)
               | (go_at_call 102; (with_reducible refine Calls.mono (HR.out ta 22 nn ba (by omega) (by omega)) ?_); rintro e u2 ⟨rfl, kk, rfl⟩; exact hK _ ⟨nn + kk, drewN_add _ _ _⟩))
           simp only [Act.put, List.setIfInBounds_toArray, List.set_cons_zero, List.set_cons_succ]))
      refine keep_nil (fun w3 hS3 => ?_)
      obtain ⟨k6, rfl⟩ := hS3
      rw [two_eq ta M ba bM]
      have b0 := bS0_lt ba
      obtain ⟨T, hT⟩ : ∃ T, T = bS0 ta + M := ⟨_, rfl⟩
      rw [← hT]
      have bT : T < 68719476736 := by omega
      have HT := hide hT
      clear hT
      go_wp2_with fail
      refine wp_region_keep_tail 30 (fun u => ∃ k, u = wr.drewN k) mixed (by kernel_rfl) ⟨k6 + 1, rfl⟩ ?_
      simp only [List.take_succ_cons, List.take_zero]
      repeat (first
        | (refine keep_step (v := ?_) (by rfl) (fun u K hS hK => ?_) ?_
           rotate_left
           · obtain ⟨nn, rfl⟩ := hS
             have ya : (wr.drewN nn).cell? ⟨VB, 0, none⟩ = _ := HV.out.a
             have yb : (wr.drewN nn).cell? ⟨VB, 1, none⟩ = _ := HV.out.b
             have yc : (wr.drewN nn).cell? ⟨VB, 2, none⟩ = _ := HV.out.c
             have yd : (wr.drewN nn).cell? ⟨VB, 3, none⟩ = _ := HV.out.d
             have ye : (wr.drewN nn).cell? ⟨VB, 4, none⟩ = _ := HV.out.e
             have yf : (wr.drewN nn).cell? ⟨VB, 5, none⟩ = _ := HV.out.f
             have yg : (wr.drewN nn).cell? ⟨VB, 6, none⟩ = _ := HV.out.g
             (go_simp; first
               | (with_reducible exact hK _ ⟨nn, rfl⟩))
           simp only [Act.put, List.setIfInBounds_toArray, List.set_cons_zero, List.set_cons_succ]))
      refine keep_nil (fun w3 hS3 => ?_)
      obtain ⟨k7, rfl⟩ := hS3
      simp only [List.drop_succ_cons, List.drop_zero]
      rw [sum_eq2 O T bO bT, sum_eq2 td O (by omega) bO]
      have hnew := v8_new (wr.drewN k7) 174 ((O + T) % 4294967296) ta tb tc ((td + O) % 4294967296) te tf tg
      rw [← step_is ta tb tc td te tf tg th K X O T (by rw [HO.out, HC.out]) (by rw [HT.out, HM.out]), ← HRo.out] at hnew
      have HN := hide hnew
      have HE2 := hide ((HE.out.drewN k7).up (below_new (wr.drewN k7) (.cells #[.int .u64 (((O + T) % 4294967296 : Nat) : Int), .int .u64 (ta : Int), .int .u64 (tb : Int), .int .u64 (tc : Int), .int .u64 (((td + O) % 4294967296 : Nat) : Int), .int .u64 (te : Int), .int .u64 (tf : Int), .int .u64 (tg : Int)] 174)))
      have hne : (wr.drewN k7).heap.size ≠ HB := by have := HE.out.env.lts.2.1; show wr.heap.size ≠ HB; omega
      clear hnew HE HV HR XW XK HRo HO HT HC HM
      generalize (O + T) % 4294967296 = p1 at *
      generalize (td + O) % 4294967296 = p2 at *
      generalize wr.drewN k7 = w3 at *
      go_wp2_with (refine wpList_buildSlice_to rfl 180 8 _ rfl (some 260) rfl _ (by as_aux_lemma => kernel_rfl) _ _ (build_s8 _ _ _ _ _ _ _ _ _) ?_)
      refine of_hid ?_
      generalize w3.alloc _ = w4 at *
      generalize w3.heap.size = NB at *
      go_wp2
      go_roundw
      case rel => exact ⟨i + 1, NB, 8, by go_num, rfl, by omega, by omega, by omega, hne, HE2.out, HN.out⟩
      case measure => simp [intOf]; omega
    · have hj4 : i = 64 := by omega
      subst hj4
      have hx := Hx.out
      go_wp2_with fail
      exact hx _ _ _ _ _ _ _ _ _ _ _ _ _ _ _ _ _ _ _ _ _ _ _ _ _ _ _ _ _ _ _ _ _ _ _ _ _ _ _ _ _ _ _ _ _ _ _ _ _ _ _ _ _ _ _ _ _ _ _ _ _ _ _ _ _ _ _ _ _ _ _ _ _ _ _ _ _ _ _ _ _ _ _ _ _ _ _ _ _ _ _ _ _ _ _ _ _ _ _ _ _ _ _ _ _ _ _ _ _ _ _ _ _ _ _ _ _ _ _ _ _ _ _ _ _ _ _ VB vc wr hvc hvm HE.out HV.out hvh
end Go.Proofs.YtheambpddpfcfaaDoor.Sz7
/- The reference's state while a block's words are added to it. -/
namespace Go.Proofs.YtheambpddpfcfaaDoor.Szb
set_option linter.unusedVariables false
set_option linter.unusedSimpArgs false
set_option maxRecDepth 100000
open Go.RowKit
open Go.Proofs.YtheambpddpfcfaaDoor.Wu Go.Proofs.YtheambpddpfcfaaDoor.Sm Go.Proofs.YtheambpddpfcfaaDoor.Sk Go.Proofs.YtheambpddpfcfaaDoor.Sc Go.Proofs.YtheambpddpfcfaaDoor.Sxa Go.Proofs.YtheambpddpfcfaaDoor.Sh Go.Proofs.YtheambpddpfcfaaDoor.Sn Go.Proofs.YtheambpddpfcfaaDoor.Sw0 Go.Proofs.YtheambpddpfcfaaDoor.Sf Go.Proofs.YtheambpddpfcfaaDoor.So Go.Proofs.YtheambpddpfcfaaDoor.Sv Go.Proofs.YtheambpddpfcfaaDoor.Ap Go.Proofs.YtheambpddpfcfaaDoor.Sr Go.Proofs.YtheambpddpfcfaaDoor.Srf0 Go.Proofs.YtheambpddpfcfaaDoor.Srf1 Go.Proofs.YtheambpddpfcfaaDoor.Sza
def hRow (s v : S8) (i : Nat) : List Nat := (s.add v).list.take i ++ s.list.drop i
theorem hRow_zero (s v : S8) : hRow s v 0 = s.list := by simp [hRow]
theorem hRow_end (s v : S8) : hRow s v 8 = (s.add v).list := by simp [hRow, S8.list]
theorem hRow_length (s v : S8) (i : Nat) (h : i ≤ 8) : (hRow s v i).length = 8 := by simp [hRow, S8.list]; omega
theorem hRow_at (s v : S8) (i : Nat) (h : i < 8) : (hRow s v i).getD i 0 = s.list.getD i 0 := by
  match i, h with
  | 0, _ => rfl
  | 1, _ => rfl
  | 2, _ => rfl
  | 3, _ => rfl
  | 4, _ => rfl
  | 5, _ => rfl
  | 6, _ => rfl
  | 7, _ => rfl
theorem hRow_step (s v : S8) (i : Nat) (h : i < 8) : (hRow s v i).set i ((s.list.getD i 0 + v.list.getD i 0) % 4294967296) = hRow s v (i + 1) := by
  match i, h with
  | 0, _ => rfl
  | 1, _ => rfl
  | 2, _ => rfl
  | 3, _ => rfl
  | 4, _ => rfl
  | 5, _ => rfl
  | 6, _ => rfl
  | 7, _ => rfl
theorem V8.at {wr : World} {VB : Nat} {v : S8} (h : V8 wr VB v) (i : Nat) (hi : i < 8) : wr.cell? ⟨VB, i, none⟩ = some (.int .u64 ((v.list.getD i 0 : Nat) : Int)) := by
  match i, hi with
  | 0, _ => exact h.a
  | 1, _ => exact h.b
  | 2, _ => exact h.c
  | 3, _ => exact h.d
  | 4, _ => exact h.e
  | 5, _ => exact h.f
  | 6, _ => exact h.g
  | 7, _ => exact h.h
/-- The memory, the state's row told by a list. -/
structure E3 (w wr : World) (KB HB g nb cap : Nat) (PM : List Nat) (row : List Nat) : Prop where
  ks : wr.heap[KB]? = some (.cells (u64s Ks) 174 (0, 0))
  hs : wr.heap[HB]? = some (.cells (u64s row) 174 (0, 0))
  msg : Dst wr g (64 * nb) cap PM
  res : wr.heap[w.heap.size]? = some (.cells (u8s (zeros 32)) 61 (0, 0))
  below : Below w.heap.size w wr
  nk : KB ≠ HB
  ng : g ≠ HB
  nr : w.heap.size < HB
section
variable {w wr : World} {KB HB g nb cap : Nat} {PM : List Nat} {s : S8} {row row' : List Nat}
theorem E3.env (h : E3 w wr KB HB g nb cap PM s.list) : Env w wr KB HB g (64 * nb) cap PM s := ⟨h.ks, h.hs, h.msg, h.res, h.below⟩
theorem E3.step {i x : Nat} (h : E3 w wr KB HB g nb cap PM row) (hr : row.set i x = row') : ∀ k : Nat, E3 w ((wr.drewN k).setCell ⟨HB, i, none⟩ (.int .u64 (x : Int))) KB HB g nb cap PM row' := by
  intro k
  have hg := grown_setCell (World.grownBy.refl (wr.drewN k) (some HB)) i (.int .u64 (x : Int))
  have hb : Below w.heap.size w (wr.drewN k) := below_drewN h.below k
  have hh : (wr.drewN k).heap[HB]? = some (.cells (u64s row) 174 (0, 0)) := h.hs
  have hd : Dst (wr.drewN k) g (64 * nb) cap PM := ⟨h.msg.len, h.msg.all, h.msg.fit, h.msg.max, h.msg.lt, h.msg.cells, h.msg.spare⟩
  refine ⟨keepG hg h.nk h.ks, ?_, hd.kept hg h.ng, keepG hg (by have := h.nr; omega) h.res, belowG hb hg (by have := h.nr; omega) hb.size, h.nk, h.ng, h.nr⟩
  rw [blk_set hh, u64s_set, hr]
theorem V8.kept {VB i : Nat} {x : Value} {v : S8} (h : V8 wr VB v) (hne : VB ≠ HB) : ∀ k : Nat, V8 ((wr.drewN k).setCell ⟨HB, i, none⟩ x) VB v := by
  intro k
  have hg := grown_setCell (World.grownBy.refl (wr.drewN k) (some HB)) i x
  have h' := h.drewN k
  exact ⟨grown_cell hg hne h'.a, grown_cell hg hne h'.b, grown_cell hg hne h'.c, grown_cell hg hne h'.d, grown_cell hg hne h'.e, grown_cell hg hne h'.f, grown_cell hg hne h'.g, grown_cell hg hne h'.h⟩
theorem list_lt {s : S8} (h : s.ok) (i : Nat) : s.list.getD i 0 < 4294967296 := all32_getD h i
end
def oRow (s : S8) (i : Nat) : List Nat := (bytes8 s).take i ++ zeros (32 - i)
theorem oRow_length (s : S8) (i : Nat) (h : i ≤ 32) : (oRow s i).length = 32 := by simp [oRow, bytes8_length, zeros]; omega
theorem oRow_end (s : S8) : oRow s 32 = bytes8 s := by unfold oRow; rw [List.take_of_length_le (by rw [bytes8_length]; omega)]; simp [zeros]
theorem oRow_zero (s : S8) : oRow s 0 = zeros 32 := by simp [oRow]
theorem bytes8_at (s : S8) (i : Nat) (h : i < 32) : (bytes8 s).getD i 0 = (s.list.getD (i / 4) 0 >>> (24 - 8 * (i % 4))) % 256 := by
  obtain ⟨a, b, ha, hb, rfl⟩ : ∃ a b, a < 8 ∧ b < 4 ∧ i = 4 * a + b := ⟨i / 4, i % 4, by omega, by omega, by omega⟩
  rw [show (4 * a + b) / 4 = a by omega, show (4 * a + b) % 4 = b by omega]
  match a, ha with
  | 0, _ => match b, hb with
    | 0, _ => simp [bytes8, S8.list, four, List.getD, Nat.shiftRight_eq_div_pow]
    | 1, _ => simp [bytes8, S8.list, four, List.getD, Nat.shiftRight_eq_div_pow]
    | 2, _ => simp [bytes8, S8.list, four, List.getD, Nat.shiftRight_eq_div_pow]
    | 3, _ => simp [bytes8, S8.list, four, List.getD, Nat.shiftRight_eq_div_pow]
  | 1, _ => match b, hb with
    | 0, _ => simp [bytes8, S8.list, four, List.getD, Nat.shiftRight_eq_div_pow]
    | 1, _ => simp [bytes8, S8.list, four, List.getD, Nat.shiftRight_eq_div_pow]
    | 2, _ => simp [bytes8, S8.list, four, List.getD, Nat.shiftRight_eq_div_pow]
    | 3, _ => simp [bytes8, S8.list, four, List.getD, Nat.shiftRight_eq_div_pow]
  | 2, _ => match b, hb with
    | 0, _ => simp [bytes8, S8.list, four, List.getD, Nat.shiftRight_eq_div_pow]
    | 1, _ => simp [bytes8, S8.list, four, List.getD, Nat.shiftRight_eq_div_pow]
    | 2, _ => simp [bytes8, S8.list, four, List.getD, Nat.shiftRight_eq_div_pow]
    | 3, _ => simp [bytes8, S8.list, four, List.getD, Nat.shiftRight_eq_div_pow]
  | 3, _ => match b, hb with
    | 0, _ => simp [bytes8, S8.list, four, List.getD, Nat.shiftRight_eq_div_pow]
    | 1, _ => simp [bytes8, S8.list, four, List.getD, Nat.shiftRight_eq_div_pow]
    | 2, _ => simp [bytes8, S8.list, four, List.getD, Nat.shiftRight_eq_div_pow]
    | 3, _ => simp [bytes8, S8.list, four, List.getD, Nat.shiftRight_eq_div_pow]
  | 4, _ => match b, hb with
    | 0, _ => simp [bytes8, S8.list, four, List.getD, Nat.shiftRight_eq_div_pow]
    | 1, _ => simp [bytes8, S8.list, four, List.getD, Nat.shiftRight_eq_div_pow]
    | 2, _ => simp [bytes8, S8.list, four, List.getD, Nat.shiftRight_eq_div_pow]
    | 3, _ => simp [bytes8, S8.list, four, List.getD, Nat.shiftRight_eq_div_pow]
  | 5, _ => match b, hb with
    | 0, _ => simp [bytes8, S8.list, four, List.getD, Nat.shiftRight_eq_div_pow]
    | 1, _ => simp [bytes8, S8.list, four, List.getD, Nat.shiftRight_eq_div_pow]
    | 2, _ => simp [bytes8, S8.list, four, List.getD, Nat.shiftRight_eq_div_pow]
    | 3, _ => simp [bytes8, S8.list, four, List.getD, Nat.shiftRight_eq_div_pow]
  | 6, _ => match b, hb with
    | 0, _ => simp [bytes8, S8.list, four, List.getD, Nat.shiftRight_eq_div_pow]
    | 1, _ => simp [bytes8, S8.list, four, List.getD, Nat.shiftRight_eq_div_pow]
    | 2, _ => simp [bytes8, S8.list, four, List.getD, Nat.shiftRight_eq_div_pow]
    | 3, _ => simp [bytes8, S8.list, four, List.getD, Nat.shiftRight_eq_div_pow]
  | 7, _ => match b, hb with
    | 0, _ => simp [bytes8, S8.list, four, List.getD, Nat.shiftRight_eq_div_pow]
    | 1, _ => simp [bytes8, S8.list, four, List.getD, Nat.shiftRight_eq_div_pow]
    | 2, _ => simp [bytes8, S8.list, four, List.getD, Nat.shiftRight_eq_div_pow]
    | 3, _ => simp [bytes8, S8.list, four, List.getD, Nat.shiftRight_eq_div_pow]
theorem oRow_step (s : S8) (i : Nat) (h : i < 32) : (oRow s i).set i ((s.list.getD (i / 4) 0 >>> (24 - 8 * (i % 4))) % 256) = oRow s (i + 1) := by
  rw [← bytes8_at s i h]
  unfold oRow
  have hl : ((bytes8 s).take i).length = i := by rw [List.length_take, bytes8_length]; omega
  rw [List.set_append_right _ _ (by omega), hl, Nat.sub_self, show 32 - i = (32 - (i + 1)) + 1 by omega]
  have e : (bytes8 s).take (i + 1) = (bytes8 s).take i ++ [(bytes8 s).getD i 0] := by
    have hb : i < (bytes8 s).length := by rw [bytes8_length]; exact h
    rw [List.take_succ_eq_append_getElem hb]
    simp only [List.getD, List.getElem?_eq_getElem hb, Option.getD_some]
  rw [e]
  simp [zeros, List.replicate_succ]
theorem shr_mod (A k : Nat) : ((A : Int) / 2 ^ k).tmod 256 % 256 = (((A >>> k) % 256 : Nat) : Int) := by
  have e : (A : Int) / 2 ^ k = ((A >>> k : Nat) : Int) := by rw [Nat.shiftRight_eq_div_pow, Int.natCast_ediv, Int.natCast_pow]; rfl
  rw [e]
  generalize A >>> k = y
  rw [Int.tmod_eq_emod_of_nonneg (by omega)]
  omega
theorem make64 (u : World) : Sem.run Tryd.prog (Instr.makeSlice 180 (.int .i64 64) (.int .i64 64)) u = .ok (.slice (some ⟨u.heap.size, 0, none⟩) 64 64) (u.alloc (.cells (u64s (zeros 64)) 174)) := by kernel_rfl
theorem info_u64 : (Tryd.prog.info? 174).map (fun i => (i.zero, i.size, i.bytes)) = some (some (.int .u64 0), 1, 8) := by kernel_rfl
theorem append_h (u : World) (ty : TypeId) (EB HB : Nat) (s : S8) (he : u.heap[EB]? = some (.cells #[] 174 (0, 0))) (hs : u.heap[HB]? = some (.cells (u64s s.list) 174 (0, 0))) (hlt : HB < EB) (hE : EB < u.heap.size) :
    ∃ VB vc u', (Builtin.append_ #[180, 180] ty #[.slice (some ⟨EB, 0, none⟩) 0 0, .slice (some ⟨HB, 0, none⟩) 8 8]).run Tryd.prog u = .ok (.slice (some ⟨VB, 0, none⟩) 8 vc) u' ∧ V8 u' VB s ∧ 8 ≤ vc ∧ vc ≤ 9223372036854775807 ∧ VB ≠ HB ∧ u.grownBy u' (some EB) := by
  obtain ⟨i0, hi0, hz0, hz1, hz2⟩ := info_parts info_u64
  have hown : u.ownsRow 0 174 1 (.slice (some ⟨EB, 0, none⟩) 0 0) 0 [] := ⟨by simp, .inr ⟨EB, 0, #[], rfl, Nat.zero_le _, he, Nat.le_refl _, Nat.zero_le _, by simp, by simp⟩⟩
  have hnews : ∀ j v, (u64s s.list).toList[j]? = some v → u.cell? ((⟨HB, 0, none⟩ : Addr).add j) = some v := by
    intro j v hv
    rw [Addr.add_mid, Nat.zero_add]
    exact blk_cell hs (by simpa using hv)
  obtain ⟨v', w', hr, h1, h2, h3, h4⟩ := run_append_own_at (P := Tryd.prog) u 0 180 ty 174 i0 _ 1 8 Tryd.underlying180 hi0 hz0 hz1 hz2 rfl (by omega) _ 0 [] hown ⟨HB, 0, none⟩ 8 8 (u64s s.list).toList rfl hnews (by
    intro v hv
    simp only [u64s, S8.list, List.map_cons, List.map_nil, List.mem_cons, List.not_mem_nil, or_false] at hv
    rcases hv with rfl | rfl | rfl | rfl | rfl | rfl | rfl | rfl <;> rfl) (by unfold maxLen; omega) (by omega) (Nat.zero_le _)
  simp only [Nat.zero_add, List.nil_append] at h1
  rcases h1.2 with ⟨_, hn⟩ | ⟨g, cap, cur, rfl, hb, hg, hl, hm, _⟩
  · omega
  · have hc := h1.cells (g := g) rfl
    have hc' : ∀ (j : Nat) (v : Value), (u64s s.list).toList[j]? = some v → w'.cell? ⟨g, j, none⟩ = some v := by
      intro j v hv
      have := hc j v hv
      rwa [Addr.add_mid, Nat.zero_add] at this
    unfold maxLen at hm
    refine ⟨g, cap, w', hr, ⟨hc' 0 _ rfl, hc' 1 _ rfl, hc' 2 _ rfl, hc' 3 _ rfl, hc' 4 _ rfl, hc' 5 _ rfl, hc' 6 _ rfl, hc' 7 _ rfl⟩, hl, by omega, ?_, h2⟩
    rcases h4 with e | e
    · injection e with e; have e : g = EB := e; omega
    · injection e with e; have e : g = u.heap.size := e; omega
theorem wpList_append_run3 {P : Program} {w w' : World} {ops : Array Oper} {rest : List Oper} {o : Oper} {a : Act} {Q : Exit → Act → World → Prop} (hgd : o.guard = none) (s x : Operand) (t : TypeId)
    (ho : o.op = .call { callee := .builtin .append, args := #[s, x], argTypes := #[t, t] }) (v xv v' : Value)
    (hs : a.eval s = v) (hx : a.eval x = xv) (hrun : (Builtin.append_ #[t, t] o.type #[v, xv]).run P w = .ok v' w') (h : Hid (wpList P ops Q rest (a.put o.dst v') w')) : wpList P ops Q (o :: rest) a w := by
  refine wpList_plain hgd fun K hK => ?_
  unfold Oper.wp
  simp [execOp, ho, resolve, invoke, builtin, hs, hx, hrun, Result.andThen]
  exact hK _ _ h
theorem _root_.Go.Proofs.YtheambpddpfcfaaDoor.Sza.E2.grown {w wr wr' : World} {KB HB g nb cap : Nat} {PM : List Nat} {s : S8} {WB : Nat} {row : List Nat} {EB : Nat} (h : E2 w wr KB HB g nb cap PM s WB row) (hg : wr.grownBy wr' (some EB)) (h1 : KB ≠ EB) (h2 : HB ≠ EB) (h3 : g ≠ EB) (h4 : w.heap.size < EB) (h5 : WB ≠ EB) : E2 w wr' KB HB g nb cap PM s WB row :=
  ⟨h.env.grown hg h1 h2 h3 h4, keepG hg h5 h.row, h.nk, h.nh, h.ng, h.nr⟩
end Go.Proofs.YtheambpddpfcfaaDoor.Szb
/- The reference's state: a block's words are added. -/
namespace Go.Proofs.YtheambpddpfcfaaDoor.Sz8
set_option linter.unusedVariables false
set_option linter.unusedSimpArgs false
set_option maxRecDepth 1000000
open Go.ChangeShapes Go.WideShapes Go.ChangeAt Go.RowKit
open Go.Proofs.YtheambpddpfcfaaDoor.Wu Go.Proofs.YtheambpddpfcfaaDoor.Sm Go.Proofs.YtheambpddpfcfaaDoor.Sk Go.Proofs.YtheambpddpfcfaaDoor.Sc Go.Proofs.YtheambpddpfcfaaDoor.Sxa Go.Proofs.YtheambpddpfcfaaDoor.Sh Go.Proofs.YtheambpddpfcfaaDoor.Sn Go.Proofs.YtheambpddpfcfaaDoor.Sw0 Go.Proofs.YtheambpddpfcfaaDoor.Sf Go.Proofs.YtheambpddpfcfaaDoor.So Go.Proofs.YtheambpddpfcfaaDoor.Sv Go.Proofs.YtheambpddpfcfaaDoor.Ap Go.Proofs.YtheambpddpfcfaaDoor.Sr Go.Proofs.YtheambpddpfcfaaDoor.Srf0 Go.Proofs.YtheambpddpfcfaaDoor.Srf1 Go.Proofs.YtheambpddpfcfaaDoor.Rk Go.Proofs.YtheambpddpfcfaaDoor.Sza Go.Proofs.YtheambpddpfcfaaDoor.Szb
attribute [local go_sem] kUpon_value kUpon_skip kUpon_enter
set_option maxHeartbeats 6400000 in
theorem loop8 (c0 c1 c4 c5 c10 c11 c12 c13 c14 c15 c17 c18 c19 c20 c21 c23 c24 c25 c26 c27 c28 c29 c30 c31 c32 c33 c34 c35 c36 c37 c38 c39 c40 c41 c42 c43 c44 c45 c46 c47 c48 c49 c50 c51 c52 c53 c54 c55 c56 c57 c58 c59 c60 c61 c62 c63 c64 c65 c66 c67 c68 c69 c70 c71 c72 c73 c74 c75 c76 c77 c78 c79 c80 c81 c82 c83 c84 c85 c86 c87 c88 c89 c90 c91 c92 c93 c94 c95 c96 c97 c98 c99 c100 c101 c102 c103 c104 c105 c106 c107 c108 c109 c110 c111 c112 c113 c114 c115 c116 c117 c118 c119 c120 c121 c122 c123 c124 c125 c126 c127 c128 c129 c130 c131 c132 c133 c134 c135 c136 c137 c138 c139 c140 c141 c142 c143 c144 c145 c146 c147 c148 c149 c150 c151 c152 c153 c154 c155 c156 c157 c158 c159 c160 c161 c162 c163 c164 c165 c166 c167 c168 c169 c170 c171 c172 c173 c174 c175 c176 c177 c178 c179 c180 c181 c182 c183 c184 c185 c186 c187 c188 c189 c190 c191 c192 c193 c194 c195 c196 c197 c198 c199 c200 c201 c202 c203 c204 c205 c206 c207 c208 c209 c210 c211 c212 c213 c214 c215 c216 c217 c218 c219 c220 c221 c222 c223 c224 c225 c226 c227 c228 c229 c230 c231 c232 c233 c234 c235 c236 c237 c238 c239 c240 c241 c242 c243 c244 c245 c246 c247 c248 c249 c250 c251 c252 c253 c254 c255 c256 c257 c258 c259 c260 c279 c280 c281 c282 c283 c284 c285 c286 c287 c288 c289 c290 c291 c292 c293 c294 c295 c296 c297 c298 u261 u262 u263 u264 u265 u266 u267 u268 u269 u270 u271 u272 u273 u274 u275 u276 u277 u278 : Value) (w wr : World) (KB HB g nb cap P n : Nat) (PM : List Nat) (s : S8) (Q : Exit → Act → World → Prop) (VB vc : Nat) (v : S8) (hvc : 8 ≤ vc) (hvm : vc ≤ 9223372036854775807) (hE : E3 w wr KB HB g nb cap PM s.list) (hV : V8 wr VB v) (hvh : VB ≠ HB) (hs : s.ok) (hv : v.ok)
    (hexit : ∀ (x22 x261 x262 x263 x264 x265 x266 x267 x268 x269 x270 x271 x272 x273 x274 x275 x276 x277 x278 : Value) (wx : World), E3 w wx KB HB g nb cap PM (s.add v).list → Q (.exit 14) ⟨List.toArray (c0 :: c1 :: (.pointer (some ⟨w.heap.size, 0, none⟩) : Value) :: (.slice (some ⟨g, 0, none⟩) n cap : Value) :: c4 :: c5 :: (.slice (some ⟨KB, 0, none⟩) 64 64 : Value) :: (.int .u64 4294967296 : Value) :: (.slice (some ⟨HB, 0, none⟩) 8 8 : Value) :: (.int .i64 (P : Int) : Value) :: c10 :: c11 :: c12 :: c13 :: c14 :: c15 :: (.slice (some ⟨VB, 0, none⟩) 8 vc : Value) :: c17 :: c18 :: c19 :: c20 :: c21 :: x22 :: c23 :: c24 :: c25 :: c26 :: c27 :: c28 :: c29 :: c30 :: c31 :: c32 :: c33 :: c34 :: c35 :: c36 :: c37 :: c38 :: c39 :: c40 :: c41 :: c42 :: c43 :: c44 :: c45 :: c46 :: c47 :: c48 :: c49 :: c50 :: c51 :: c52 :: c53 :: c54 :: c55 :: c56 :: c57 :: c58 :: c59 :: c60 :: c61 :: c62 :: c63 :: c64 :: c65 :: c66 :: c67 :: c68 :: c69 :: c70 :: c71 :: c72 :: c73 :: c74 :: c75 :: c76 :: c77 :: c78 :: c79 :: c80 :: c81 :: c82 :: c83 :: c84 :: c85 :: c86 :: c87 :: c88 :: c89 :: c90 :: c91 :: c92 :: c93 :: c94 :: c95 :: c96 :: c97 :: c98 :: c99 :: c100 :: c101 :: c102 :: c103 :: c104 :: c105 :: c106 :: c107 :: c108 :: c109 :: c110 :: c111 :: c112 :: c113 :: c114 :: c115 :: c116 :: c117 :: c118 :: c119 :: c120 :: c121 :: c122 :: c123 :: c124 :: c125 :: c126 :: c127 :: c128 :: c129 :: c130 :: c131 :: c132 :: c133 :: c134 :: c135 :: c136 :: c137 :: c138 :: c139 :: c140 :: c141 :: c142 :: c143 :: c144 :: c145 :: c146 :: c147 :: c148 :: c149 :: c150 :: c151 :: c152 :: c153 :: c154 :: c155 :: c156 :: c157 :: c158 :: c159 :: c160 :: c161 :: c162 :: c163 :: c164 :: c165 :: c166 :: c167 :: c168 :: c169 :: c170 :: c171 :: c172 :: c173 :: c174 :: c175 :: c176 :: c177 :: c178 :: c179 :: c180 :: c181 :: c182 :: c183 :: c184 :: c185 :: c186 :: c187 :: c188 :: c189 :: c190 :: c191 :: c192 :: c193 :: c194 :: c195 :: c196 :: c197 :: c198 :: c199 :: c200 :: c201 :: c202 :: c203 :: c204 :: c205 :: c206 :: c207 :: c208 :: c209 :: c210 :: c211 :: c212 :: c213 :: c214 :: c215 :: c216 :: c217 :: c218 :: c219 :: c220 :: c221 :: c222 :: c223 :: c224 :: c225 :: c226 :: c227 :: c228 :: c229 :: c230 :: c231 :: c232 :: c233 :: c234 :: c235 :: c236 :: c237 :: c238 :: c239 :: c240 :: c241 :: c242 :: c243 :: c244 :: c245 :: c246 :: c247 :: c248 :: c249 :: c250 :: c251 :: c252 :: c253 :: c254 :: c255 :: c256 :: c257 :: c258 :: c259 :: c260 :: x261 :: x262 :: x263 :: x264 :: x265 :: x266 :: x267 :: x268 :: x269 :: x270 :: x271 :: x272 :: x273 :: x274 :: x275 :: x276 :: x277 :: x278 :: c279 :: c280 :: c281 :: c282 :: c283 :: c284 :: c285 :: c286 :: c287 :: c288 :: c289 :: c290 :: c291 :: c292 :: c293 :: c294 :: c295 :: c296 :: c297 :: c298 :: []), []⟩ wx) :
    Code.wp Tryd.prog (lc 7) Q ⟨List.toArray (c0 :: c1 :: (.pointer (some ⟨w.heap.size, 0, none⟩) : Value) :: (.slice (some ⟨g, 0, none⟩) n cap : Value) :: c4 :: c5 :: (.slice (some ⟨KB, 0, none⟩) 64 64 : Value) :: (.int .u64 4294967296 : Value) :: (.slice (some ⟨HB, 0, none⟩) 8 8 : Value) :: (.int .i64 (P : Int) : Value) :: c10 :: c11 :: c12 :: c13 :: c14 :: c15 :: (.slice (some ⟨VB, 0, none⟩) 8 vc : Value) :: c17 :: c18 :: c19 :: c20 :: c21 :: (.int .i64 0 : Value) :: c23 :: c24 :: c25 :: c26 :: c27 :: c28 :: c29 :: c30 :: c31 :: c32 :: c33 :: c34 :: c35 :: c36 :: c37 :: c38 :: c39 :: c40 :: c41 :: c42 :: c43 :: c44 :: c45 :: c46 :: c47 :: c48 :: c49 :: c50 :: c51 :: c52 :: c53 :: c54 :: c55 :: c56 :: c57 :: c58 :: c59 :: c60 :: c61 :: c62 :: c63 :: c64 :: c65 :: c66 :: c67 :: c68 :: c69 :: c70 :: c71 :: c72 :: c73 :: c74 :: c75 :: c76 :: c77 :: c78 :: c79 :: c80 :: c81 :: c82 :: c83 :: c84 :: c85 :: c86 :: c87 :: c88 :: c89 :: c90 :: c91 :: c92 :: c93 :: c94 :: c95 :: c96 :: c97 :: c98 :: c99 :: c100 :: c101 :: c102 :: c103 :: c104 :: c105 :: c106 :: c107 :: c108 :: c109 :: c110 :: c111 :: c112 :: c113 :: c114 :: c115 :: c116 :: c117 :: c118 :: c119 :: c120 :: c121 :: c122 :: c123 :: c124 :: c125 :: c126 :: c127 :: c128 :: c129 :: c130 :: c131 :: c132 :: c133 :: c134 :: c135 :: c136 :: c137 :: c138 :: c139 :: c140 :: c141 :: c142 :: c143 :: c144 :: c145 :: c146 :: c147 :: c148 :: c149 :: c150 :: c151 :: c152 :: c153 :: c154 :: c155 :: c156 :: c157 :: c158 :: c159 :: c160 :: c161 :: c162 :: c163 :: c164 :: c165 :: c166 :: c167 :: c168 :: c169 :: c170 :: c171 :: c172 :: c173 :: c174 :: c175 :: c176 :: c177 :: c178 :: c179 :: c180 :: c181 :: c182 :: c183 :: c184 :: c185 :: c186 :: c187 :: c188 :: c189 :: c190 :: c191 :: c192 :: c193 :: c194 :: c195 :: c196 :: c197 :: c198 :: c199 :: c200 :: c201 :: c202 :: c203 :: c204 :: c205 :: c206 :: c207 :: c208 :: c209 :: c210 :: c211 :: c212 :: c213 :: c214 :: c215 :: c216 :: c217 :: c218 :: c219 :: c220 :: c221 :: c222 :: c223 :: c224 :: c225 :: c226 :: c227 :: c228 :: c229 :: c230 :: c231 :: c232 :: c233 :: c234 :: c235 :: c236 :: c237 :: c238 :: c239 :: c240 :: c241 :: c242 :: c243 :: c244 :: c245 :: c246 :: c247 :: c248 :: c249 :: c250 :: c251 :: c252 :: c253 :: c254 :: c255 :: c256 :: c257 :: c258 :: c259 :: c260 :: u261 :: u262 :: u263 :: u264 :: u265 :: u266 :: u267 :: u268 :: u269 :: u270 :: u271 :: u272 :: u273 :: u274 :: u275 :: u276 :: u277 :: u278 :: c279 :: c280 :: c281 :: c282 :: c283 :: c284 :: c285 :: c286 :: c287 :: c288 :: c289 :: c290 :: c291 :: c292 :: c293 :: c294 :: c295 :: c296 :: c297 :: c298 :: []), []⟩ wr := by
  conv => arg 2; whnf
  have HE := hide hE
  have HV := hide hV
  have Hx := hide hexit
  clear hE hV hexit
  go_loopw [22] (fun c wr => ∃ i : Nat, c = .int .i64 (i : Int) ∧ i ≤ 8 ∧ E3 w wr KB HB g nb cap PM (hRow s v i) ∧ V8 wr VB v) (fun c _ => 8 - (intOf c).toNat)
  case atStart => exact ⟨0, rfl, Nat.zero_le _, by rw [hRow_zero]; exact HE.out, HV.out⟩
  case round =>
    clear HE HV
    obtain ⟨i, rfl, hi, hE, hV⟩ := hrel
    have HE := hide hE
    have HV := hide hV
    clear hE hV
    by_cases hlt : i < 8
    · have d1 : decide ((i : Int) < 8) = true := by simp; omega
      have d1' : decide (i < 8) = true := by simp; omega
      have li : (i : Int) < 8 := by omega
      have x0 := row64 HE.out.hs (i := i) (by rw [hRow_length _ _ _ hi]; exact hlt)
      rw [hRow_at _ _ _ hlt] at x0
      have z0 : wr.frozen? ⟨HB, i, none⟩ = false := blk_free HE.out.hs
      have v0 := V8.at HV.out i hlt
      have hst := HE.out.step (hRow_step s v i hlt)
      have hvk := fun x => V8.kept (i := i) (x := x) HV.out hvh
      have bA := list_lt hs i
      have bB := list_lt hv i
      generalize s.list.getD i 0 = A at *
      generalize v.list.getD i 0 = B at *
      have HSt := hide hst
      have HVk := hide hvk
      have X0 := hide x0
      have V0 := hide v0
      clear hst hvk x0 v0
      go_wp2_with fail
      have mixed : Tryd.prog.follows Departure.mixedOrders = true := by kernel_rfl
      refine wp_region_keep_tail 14 (fun u => ∃ k, u = wr.drewN k) mixed (by kernel_rfl) ⟨1, rfl⟩ ?_
      simp only [List.take_succ_cons, List.take_zero]
      repeat (first
        | (refine keep_step (v := ?_) (by rfl) (fun u K hS hK => ?_) ?_
           rotate_left
           · obtain ⟨nn, rfl⟩ := hS
             have x1 : (wr.drewN nn).cell? ⟨HB, i, none⟩ = _ := X0.out
             have y1 : (wr.drewN nn).cell? ⟨VB, i, none⟩ = _ := V0.out
             (go_simp; with_reducible exact hK _ ⟨nn, rfl⟩)
           simp only [Act.put, List.setIfInBounds_toArray, List.set_cons_zero, List.set_cons_succ]))
      refine keep_nil (fun w3 hS3 => ?_)
      obtain ⟨k3, rfl⟩ := hS3
      simp only [List.drop_succ_cons, List.drop_zero]
      rw [sum_eq2 A B (by omega) (by omega)]
      have HS2 := hide (HSt.out k3)
      have HV2 := hide (HVk.out (.int .u64 (((A + B) % 4294967296 : Nat) : Int)) k3)
      have x2 : (wr.drewN k3).cell? ⟨HB, i, none⟩ = _ := X0.out
      have z2 : (wr.drewN k3).frozen? ⟨HB, i, none⟩ = false := z0
      clear HSt HVk X0 V0 HE HV z0
      generalize (A + B) % 4294967296 = R at *
      generalize wr.drewN k3 = w3 at *
      go_wp2
      go_roundw
      case rel => exact ⟨i + 1, by go_num, by omega, HS2.out, HV2.out⟩
      case measure => simp [intOf]; omega
    · have hk4 : i = 8 := by omega
      subst hk4
      have hE := HE.out
      rw [hRow_end] at hE
      have HE2 := hide hE
      clear hE
      have hx := Hx.out
      go_wp2
      exact HE2.out
end Go.Proofs.YtheambpddpfcfaaDoor.Sz8
/- The reference's sum: block by block. -/
namespace Go.Proofs.YtheambpddpfcfaaDoor.Sz3
set_option linter.unusedVariables false
set_option linter.unusedSimpArgs false
set_option maxRecDepth 1000000
open Go.ChangeShapes Go.WideShapes Go.ChangeAt Go.RowKit
open Go.Proofs.YtheambpddpfcfaaDoor.Wu Go.Proofs.YtheambpddpfcfaaDoor.Sm Go.Proofs.YtheambpddpfcfaaDoor.Sk Go.Proofs.YtheambpddpfcfaaDoor.Sc Go.Proofs.YtheambpddpfcfaaDoor.Sxa Go.Proofs.YtheambpddpfcfaaDoor.Sh Go.Proofs.YtheambpddpfcfaaDoor.Sn Go.Proofs.YtheambpddpfcfaaDoor.Sw0 Go.Proofs.YtheambpddpfcfaaDoor.Sf Go.Proofs.YtheambpddpfcfaaDoor.So Go.Proofs.YtheambpddpfcfaaDoor.Sv Go.Proofs.YtheambpddpfcfaaDoor.Ap Go.Proofs.YtheambpddpfcfaaDoor.Sr Go.Proofs.YtheambpddpfcfaaDoor.Srf0 Go.Proofs.YtheambpddpfcfaaDoor.Srf1 Go.Proofs.YtheambpddpfcfaaDoor.Rk Go.Proofs.YtheambpddpfcfaaDoor.Sza Go.Proofs.YtheambpddpfcfaaDoor.Szb
attribute [local go_sem] kUpon_value kUpon_skip kUpon_enter
set_option maxHeartbeats 12800000 in
theorem loop3 (c0 c1 c4 c5 c23 c24 c25 c26 c27 c28 c29 c30 c31 c32 c33 c34 c35 c36 c37 c38 c39 c40 c41 c42 c43 c44 c45 c46 c47 c48 c49 c50 c51 c52 c53 c279 c280 c281 c282 c283 c284 c285 c286 c287 c288 c289 c290 c291 c292 c293 c294 c295 c296 c297 c298 u10 u11 u12 u13 u14 u15 u16 u17 u18 u19 u20 u21 u22 u54 u55 u56 u57 u58 u59 u60 u61 u62 u63 u64 u65 u66 u67 u68 u69 u70 u71 u72 u73 u74 u75 u76 u77 u78 u79 u80 u81 u82 u83 u84 u85 u86 u87 u88 u89 u90 u91 u92 u93 u94 u95 u96 u97 u98 u99 u100 u101 u102 u103 u104 u105 u106 u107 u108 u109 u110 u111 u112 u113 u114 u115 u116 u117 u118 u119 u120 u121 u122 u123 u124 u125 u126 u127 u128 u129 u130 u131 u132 u133 u134 u135 u136 u137 u138 u139 u140 u141 u142 u143 u144 u145 u146 u147 u148 u149 u150 u151 u152 u153 u154 u155 u156 u157 u158 u159 u160 u161 u162 u163 u164 u165 u166 u167 u168 u169 u170 u171 u172 u173 u174 u175 u176 u177 u178 u179 u180 u181 u182 u183 u184 u185 u186 u187 u188 u189 u190 u191 u192 u193 u194 u195 u196 u197 u198 u199 u200 u201 u202 u203 u204 u205 u206 u207 u208 u209 u210 u211 u212 u213 u214 u215 u216 u217 u218 u219 u220 u221 u222 u223 u224 u225 u226 u227 u228 u229 u230 u231 u232 u233 u234 u235 u236 u237 u238 u239 u240 u241 u242 u243 u244 u245 u246 u247 u248 u249 u250 u251 u252 u253 u254 u255 u256 u257 u258 u259 u260 u261 u262 u263 u264 u265 u266 u267 u268 u269 u270 u271 u272 u273 u274 u275 u276 u277 u278 : Value) (w wr : World) (KB HB g nb cap n : Nat) (PM : List Nat) (Q : Exit → Act → World → Prop) (hn : n = 64 * nb) (hE : Env w wr KB HB g (64 * nb) cap PM H0) (h8 : All8 PM) (hnb : nb ≤ 40000) (nk : KB ≠ HB) (ng : g ≠ HB) (nr : w.heap.size < HB) (hgs : w.heap.size < g)
    (hexit : ∀ (x9 x10 x11 x12 x13 x14 x15 x16 x17 x18 x19 x20 x21 x22 x54 x55 x56 x57 x58 x59 x60 x61 x62 x63 x64 x65 x66 x67 x68 x69 x70 x71 x72 x73 x74 x75 x76 x77 x78 x79 x80 x81 x82 x83 x84 x85 x86 x87 x88 x89 x90 x91 x92 x93 x94 x95 x96 x97 x98 x99 x100 x101 x102 x103 x104 x105 x106 x107 x108 x109 x110 x111 x112 x113 x114 x115 x116 x117 x118 x119 x120 x121 x122 x123 x124 x125 x126 x127 x128 x129 x130 x131 x132 x133 x134 x135 x136 x137 x138 x139 x140 x141 x142 x143 x144 x145 x146 x147 x148 x149 x150 x151 x152 x153 x154 x155 x156 x157 x158 x159 x160 x161 x162 x163 x164 x165 x166 x167 x168 x169 x170 x171 x172 x173 x174 x175 x176 x177 x178 x179 x180 x181 x182 x183 x184 x185 x186 x187 x188 x189 x190 x191 x192 x193 x194 x195 x196 x197 x198 x199 x200 x201 x202 x203 x204 x205 x206 x207 x208 x209 x210 x211 x212 x213 x214 x215 x216 x217 x218 x219 x220 x221 x222 x223 x224 x225 x226 x227 x228 x229 x230 x231 x232 x233 x234 x235 x236 x237 x238 x239 x240 x241 x242 x243 x244 x245 x246 x247 x248 x249 x250 x251 x252 x253 x254 x255 x256 x257 x258 x259 x260 x261 x262 x263 x264 x265 x266 x267 x268 x269 x270 x271 x272 x273 x274 x275 x276 x277 x278 : Value) (wx : World), Env w wx KB HB g (64 * nb) cap PM (fold H0 PM nb) → Q (.exit 4) ⟨List.toArray (c0 :: c1 :: (.pointer (some ⟨w.heap.size, 0, none⟩) : Value) :: (.slice (some ⟨g, 0, none⟩) n cap : Value) :: c4 :: c5 :: (.slice (some ⟨KB, 0, none⟩) 64 64 : Value) :: (.int .u64 4294967296 : Value) :: (.slice (some ⟨HB, 0, none⟩) 8 8 : Value) :: x9 :: x10 :: x11 :: x12 :: x13 :: x14 :: x15 :: x16 :: x17 :: x18 :: x19 :: x20 :: x21 :: x22 :: c23 :: c24 :: c25 :: c26 :: c27 :: c28 :: c29 :: c30 :: c31 :: c32 :: c33 :: c34 :: c35 :: c36 :: c37 :: c38 :: c39 :: c40 :: c41 :: c42 :: c43 :: c44 :: c45 :: c46 :: c47 :: c48 :: c49 :: c50 :: c51 :: c52 :: c53 :: x54 :: x55 :: x56 :: x57 :: x58 :: x59 :: x60 :: x61 :: x62 :: x63 :: x64 :: x65 :: x66 :: x67 :: x68 :: x69 :: x70 :: x71 :: x72 :: x73 :: x74 :: x75 :: x76 :: x77 :: x78 :: x79 :: x80 :: x81 :: x82 :: x83 :: x84 :: x85 :: x86 :: x87 :: x88 :: x89 :: x90 :: x91 :: x92 :: x93 :: x94 :: x95 :: x96 :: x97 :: x98 :: x99 :: x100 :: x101 :: x102 :: x103 :: x104 :: x105 :: x106 :: x107 :: x108 :: x109 :: x110 :: x111 :: x112 :: x113 :: x114 :: x115 :: x116 :: x117 :: x118 :: x119 :: x120 :: x121 :: x122 :: x123 :: x124 :: x125 :: x126 :: x127 :: x128 :: x129 :: x130 :: x131 :: x132 :: x133 :: x134 :: x135 :: x136 :: x137 :: x138 :: x139 :: x140 :: x141 :: x142 :: x143 :: x144 :: x145 :: x146 :: x147 :: x148 :: x149 :: x150 :: x151 :: x152 :: x153 :: x154 :: x155 :: x156 :: x157 :: x158 :: x159 :: x160 :: x161 :: x162 :: x163 :: x164 :: x165 :: x166 :: x167 :: x168 :: x169 :: x170 :: x171 :: x172 :: x173 :: x174 :: x175 :: x176 :: x177 :: x178 :: x179 :: x180 :: x181 :: x182 :: x183 :: x184 :: x185 :: x186 :: x187 :: x188 :: x189 :: x190 :: x191 :: x192 :: x193 :: x194 :: x195 :: x196 :: x197 :: x198 :: x199 :: x200 :: x201 :: x202 :: x203 :: x204 :: x205 :: x206 :: x207 :: x208 :: x209 :: x210 :: x211 :: x212 :: x213 :: x214 :: x215 :: x216 :: x217 :: x218 :: x219 :: x220 :: x221 :: x222 :: x223 :: x224 :: x225 :: x226 :: x227 :: x228 :: x229 :: x230 :: x231 :: x232 :: x233 :: x234 :: x235 :: x236 :: x237 :: x238 :: x239 :: x240 :: x241 :: x242 :: x243 :: x244 :: x245 :: x246 :: x247 :: x248 :: x249 :: x250 :: x251 :: x252 :: x253 :: x254 :: x255 :: x256 :: x257 :: x258 :: x259 :: x260 :: x261 :: x262 :: x263 :: x264 :: x265 :: x266 :: x267 :: x268 :: x269 :: x270 :: x271 :: x272 :: x273 :: x274 :: x275 :: x276 :: x277 :: x278 :: c279 :: c280 :: c281 :: c282 :: c283 :: c284 :: c285 :: c286 :: c287 :: c288 :: c289 :: c290 :: c291 :: c292 :: c293 :: c294 :: c295 :: c296 :: c297 :: c298 :: []), []⟩ wx) :
    Code.wp Tryd.prog (lc 2) Q ⟨List.toArray (c0 :: c1 :: (.pointer (some ⟨w.heap.size, 0, none⟩) : Value) :: (.slice (some ⟨g, 0, none⟩) n cap : Value) :: c4 :: c5 :: (.slice (some ⟨KB, 0, none⟩) 64 64 : Value) :: (.int .u64 4294967296 : Value) :: (.slice (some ⟨HB, 0, none⟩) 8 8 : Value) :: (.int .i64 0 : Value) :: u10 :: u11 :: u12 :: u13 :: u14 :: u15 :: u16 :: u17 :: u18 :: u19 :: u20 :: u21 :: u22 :: c23 :: c24 :: c25 :: c26 :: c27 :: c28 :: c29 :: c30 :: c31 :: c32 :: c33 :: c34 :: c35 :: c36 :: c37 :: c38 :: c39 :: c40 :: c41 :: c42 :: c43 :: c44 :: c45 :: c46 :: c47 :: c48 :: c49 :: c50 :: c51 :: c52 :: c53 :: u54 :: u55 :: u56 :: u57 :: u58 :: u59 :: u60 :: u61 :: u62 :: u63 :: u64 :: u65 :: u66 :: u67 :: u68 :: u69 :: u70 :: u71 :: u72 :: u73 :: u74 :: u75 :: u76 :: u77 :: u78 :: u79 :: u80 :: u81 :: u82 :: u83 :: u84 :: u85 :: u86 :: u87 :: u88 :: u89 :: u90 :: u91 :: u92 :: u93 :: u94 :: u95 :: u96 :: u97 :: u98 :: u99 :: u100 :: u101 :: u102 :: u103 :: u104 :: u105 :: u106 :: u107 :: u108 :: u109 :: u110 :: u111 :: u112 :: u113 :: u114 :: u115 :: u116 :: u117 :: u118 :: u119 :: u120 :: u121 :: u122 :: u123 :: u124 :: u125 :: u126 :: u127 :: u128 :: u129 :: u130 :: u131 :: u132 :: u133 :: u134 :: u135 :: u136 :: u137 :: u138 :: u139 :: u140 :: u141 :: u142 :: u143 :: u144 :: u145 :: u146 :: u147 :: u148 :: u149 :: u150 :: u151 :: u152 :: u153 :: u154 :: u155 :: u156 :: u157 :: u158 :: u159 :: u160 :: u161 :: u162 :: u163 :: u164 :: u165 :: u166 :: u167 :: u168 :: u169 :: u170 :: u171 :: u172 :: u173 :: u174 :: u175 :: u176 :: u177 :: u178 :: u179 :: u180 :: u181 :: u182 :: u183 :: u184 :: u185 :: u186 :: u187 :: u188 :: u189 :: u190 :: u191 :: u192 :: u193 :: u194 :: u195 :: u196 :: u197 :: u198 :: u199 :: u200 :: u201 :: u202 :: u203 :: u204 :: u205 :: u206 :: u207 :: u208 :: u209 :: u210 :: u211 :: u212 :: u213 :: u214 :: u215 :: u216 :: u217 :: u218 :: u219 :: u220 :: u221 :: u222 :: u223 :: u224 :: u225 :: u226 :: u227 :: u228 :: u229 :: u230 :: u231 :: u232 :: u233 :: u234 :: u235 :: u236 :: u237 :: u238 :: u239 :: u240 :: u241 :: u242 :: u243 :: u244 :: u245 :: u246 :: u247 :: u248 :: u249 :: u250 :: u251 :: u252 :: u253 :: u254 :: u255 :: u256 :: u257 :: u258 :: u259 :: u260 :: u261 :: u262 :: u263 :: u264 :: u265 :: u266 :: u267 :: u268 :: u269 :: u270 :: u271 :: u272 :: u273 :: u274 :: u275 :: u276 :: u277 :: u278 :: c279 :: c280 :: c281 :: c282 :: c283 :: c284 :: c285 :: c286 :: c287 :: c288 :: c289 :: c290 :: c291 :: c292 :: c293 :: c294 :: c295 :: c296 :: c297 :: c298 :: []), []⟩ wr := by
  conv => arg 2; whnf
  have HE := hide hE
  have Hx := hide hexit
  have Hn := hide hn
  clear hE hexit hn
  go_loopw [9] (fun c wr => ∃ q P : Nat, c = .int .i64 (P : Int) ∧ P = 64 * q ∧ q ≤ nb ∧ Env w wr KB HB g (64 * nb) cap PM (fold H0 PM q)) (fun c _ => 64 * nb - (intOf c).toNat)
  case atStart => exact ⟨0, 0, rfl, rfl, Nat.zero_le _, HE.out⟩
  case round =>
    clear HE
    obtain ⟨q, P, rfl, hP, hq, hE⟩ := hrel
    have HE := hide hE
    have HP := hide hP
    clear hE
    by_cases hlt : q < nb
    · have d1 : decide ((P : Int) < (n : Int)) = true := by have := Hn.out; simp; omega
      have d1' : decide (P < n) = true := by have := Hn.out; simp; omega
      have hso := fold_ok H0_ok PM q
      have hfo : fold H0 PM (q + 1) = compress (fold H0 PM q) (blk PM q) := rfl
      have HFo := hide hfo
      have hPb : P ≤ 2560000 := by omega
      clear hfo hP
      generalize fold H0 PM q = s at *
      obtain ⟨lK, lH, lg, lr⟩ := HE.out.lts
      go_wp2_with fail
      rw [make64]
      have hb1 := below_new wr (.cells (u64s (zeros 64)) 174)
      have HE1 : Hid (E2 w (wr.alloc (.cells (u64s (zeros 64)) 174)) KB HB g nb cap PM s wr.heap.size (wHead (blk PM q) 0)) := hide ⟨HE.out.up hb1, by
        have := heap_last wr (.cells (u64s (zeros 64)) 174)
        rw [this]
        unfold wHead
        simp, by omega, by omega, by omega, by omega⟩
      clear hb1 HE
      generalize wr.alloc (.cells (u64s (zeros 64)) 174) = w1 at *
      generalize wr.heap.size = WB at *
      go_wp2_with fail
      refine Sz4.loop4 _ _ _ _ _ _ _ _ _ _ _ _ _ _ _ _ _ _ _ _ _ _ _ _ _ _ _ _ _ _ _ _ _ _ _ _ _ _ _ _ _ _ _ _ _ _ _ _ _ _ _ _ _ _ _ _ _ _ _ _ _ _ _ _ _ _ _ _ _ _ _ _ _ _ _ _ _ _ _ _ _ _ _ _ _ _ _ _ _ _ _ _ _ _ _ _ _ _ _ _ _ _ _ _ _ _ _ _ _ _ _ _ _ _ _ _ _ _ _ _ _ _ _ _ _ _ _ _ _ _ _ _ _ _ _ _ _ _ _ _ _ _ _ _ _ _ _ _ _ _ _ _ _ _ _ _ _ _ _ _ _ _ _ _ _ _ _ _ _ _ _ _ _ _ _ _ _ _ _ _ _ _ _ _ _ _ _ _ _ _ _ _ _ _ _ _ _ _ _ _ _ _ _ _ _ _ _ _ _ _ _ _ _ _ _ _ _ _ _ _ _ _ _ _ _ _ _ _ _ _ _ _ _ _ _ _ _ _ _ _ _ _ _ _ _ _ _ _ _ _ _ _ _ _ _ _ _ _ _ _ _ _ _ _ _ _ _ _ _ _ _ _ _ _ _ _ _ _ _ _ _ _ _ _ _ _ _ _ _ _ _ w w1 KB HB g nb cap q WB P n PM s _ HP.out Hn.out HE1.out h8 hlt hnb ?_
      intro x11 x12 x61 x62 x63 x64 x65 x66 x67 x68 x69 x70 x71 x72 x73 x74 x75 x76 x77 x78 x79 x80 x81 x82 x83 x84 x85 x86 x87 w2 hE2
      rw [eRow_zero] at hE2
      have HE2 := hide hE2
      clear hE2 HE1
      go_wp2_with fail
      refine Sz6.loop6 _ _ _ _ _ _ _ _ _ _ _ _ _ _ _ _ _ _ _ _ _ _ _ _ _ _ _ _ _ _ _ _ _ _ _ _ _ _ _ _ _ _ _ _ _ _ _ _ _ _ _ _ _ _ _ _ _ _ _ _ _ _ _ _ _ _ _ _ _ _ _ _ _ _ _ _ _ _ _ _ _ _ _ _ _ _ _ _ _ _ _ _ _ _ _ _ _ _ _ _ _ _ _ _ _ _ _ _ _ _ _ _ _ _ _ _ _ _ _ _ _ _ _ _ _ _ _ _ _ _ _ _ _ _ _ _ _ _ _ _ _ _ _ _ _ _ _ _ _ _ _ _ _ _ _ _ _ _ _ _ _ _ _ _ _ _ _ _ _ _ _ _ _ _ _ _ _ _ _ _ _ _ _ _ _ _ _ _ _ _ _ _ _ _ _ _ _ _ _ _ _ _ _ _ _ _ _ _ _ _ _ _ _ _ _ _ _ _ _ _ _ _ _ _ _ _ _ _ _ _ _ _ _ _ _ _ _ _ _ _ _ _ _ _ _ _ _ _ _ _ _ _ _ _ _ _ _ _ _ _ _ _ _ _ _ _ _ _ _ _ _ _ _ _ _ _ _ _ _ _ _ _ _ _ _ _ _ _ _ _ _ w w2 KB HB g nb cap q WB P n PM s _ HP.out Hn.out HE2.out h8 ?_
      intro x13 x14 x15 x88 x89 x90 x91 x92 x93 x94 x95 x96 x97 x98 x99 x100 x101 x102 x103 x104 x105 x106 x107 x108 x109 x110 x111 x112 x113 x114 x115 x116 x117 x118 x119 x120 x121 x122 x123 x124 x125 x126 x127 x128 x129 x130 x131 x132 x133 x134 x135 w3 hE3
      have HE3 := hide hE3
      clear hE3 HE2
      obtain ⟨lK3, lH3, lg3, lr3⟩ := HE3.out.env.lts
      have lW3 := heap_lt HE3.out.row
      have hb4 := below_new w3 (.cells #[] 174)
      have HE4 := hide (HE3.out.up hb4)
      have hz4 : w3.heap.size < (w3.alloc (.cells #[] 174)).heap.size := by simp
      obtain ⟨VB, vc, w5, hrun, hV5, hvc, hvm, hvh, hg5⟩ := append_h (w3.alloc (.cells #[] 174)) 180 w3.heap.size HB s (heap_last _ _) (HE4.out.env.hs) lH3 hz4
      have HE5 := hide (HE4.out.grown hg5 (by omega) (by omega) (by omega) (by omega) (by omega))
      have HV5 := hide hV5
      have HRun := hide hrun
      clear hb4 hz4 hrun hV5 hg5 HE3 HE4
      go_wp2_with (refine wpList_append_run3 rfl (.tmp 136) (.tmp 137) 180 rfl _ _ _ rfl rfl HRun.out ?_)
      refine of_hid ?_
      go_wp2_with fail
      refine Sz7.loop7 _ _ _ _ _ _ _ _ _ _ _ _ _ _ _ _ _ _ _ _ _ _ _ _ _ _ _ _ _ _ _ _ _ _ _ _ _ _ _ _ _ _ _ _ _ _ _ _ _ _ _ _ _ _ _ _ _ _ _ _ _ _ _ _ _ _ _ _ _ _ _ _ _ _ _ _ _ _ _ _ _ _ _ _ _ _ _ _ _ _ _ _ _ _ _ _ _ _ _ _ _ _ _ _ _ _ _ _ _ _ _ _ _ _ _ _ _ _ _ _ _ _ _ _ _ _ _ _ _ _ _ _ _ _ _ _ _ _ _ _ _ _ _ _ _ _ _ _ _ _ _ _ _ _ _ _ _ _ _ _ _ _ _ _ _ _ _ _ _ _ _ _ _ _ _ _ _ _ _ _ _ _ _ _ _ _ _ _ _ _ _ _ _ _ _ _ _ _ _ _ _ _ _ _ _ _ _ _ _ _ _ _ _ _ _ _ _ _ _ _ _ _ _ _ _ _ _ _ _ _ _ _ _ _ _ _ _ _ _ _ _ _ _ _ _ _ _ _ _ _ _ _ _ _ _ _ _ _ _ _ _ _ _ _ _ _ _ _ _ _ _ _ _ _ _ _ _ _ _ _ _ _ _ _ _ _ _ _ _ _ w w5 KB HB g nb cap q WB P n PM s _ HP.out Hn.out VB vc hvc hvm HE5.out HV5.out hso h8 ?_ hvh
      intro x17 x18 x19 x20 x21 x139 x140 x141 x142 x143 x144 x145 x146 x147 x148 x149 x150 x151 x152 x153 x154 x155 x156 x157 x158 x159 x160 x161 x162 x163 x164 x165 x166 x167 x168 x169 x170 x171 x172 x173 x174 x175 x176 x177 x178 x179 x180 x181 x182 x183 x184 x185 x186 x187 x188 x189 x190 x191 x192 x193 x194 x195 x196 x197 x198 x199 x200 x201 x202 x203 x204 x205 x206 x207 x208 x209 x210 x211 x212 x213 x214 x215 x216 x217 x218 x219 x220 x221 x222 x223 x224 x225 x226 x227 x228 x229 x230 x231 x232 x233 x234 x235 x236 x237 x238 x239 x240 x241 x242 x243 x244 x245 x246 x247 x248 x249 x250 x251 x252 x253 x254 x255 x256 x257 x258 x259 x260 vb vx w6 hvx hvxm hE6 hV6 hvbh
      have HE6 : Hid (E3 w w6 KB HB g nb cap PM s.list) := hide ⟨hE6.env.ks, hE6.env.hs, hE6.env.msg, hE6.env.res, hE6.env.below, nk, ng, nr⟩
      have HV6 := hide hV6
      have hvo := rounds_ok hso (sched (blk PM q)) 64
      have hco : compress s (blk PM q) = s.add (rounds (sched (blk PM q)) s 64) := rfl
      have HCo := hide hco
      clear hE6 hV6 HE5 HV5 HRun hco
      go_wp2_with fail
      refine Sz8.loop8 _ _ _ _ _ _ _ _ _ _ _ _ _ _ _ _ _ _ _ _ _ _ _ _ _ _ _ _ _ _ _ _ _ _ _ _ _ _ _ _ _ _ _ _ _ _ _ _ _ _ _ _ _ _ _ _ _ _ _ _ _ _ _ _ _ _ _ _ _ _ _ _ _ _ _ _ _ _ _ _ _ _ _ _ _ _ _ _ _ _ _ _ _ _ _ _ _ _ _ _ _ _ _ _ _ _ _ _ _ _ _ _ _ _ _ _ _ _ _ _ _ _ _ _ _ _ _ _ _ _ _ _ _ _ _ _ _ _ _ _ _ _ _ _ _ _ _ _ _ _ _ _ _ _ _ _ _ _ _ _ _ _ _ _ _ _ _ _ _ _ _ _ _ _ _ _ _ _ _ _ _ _ _ _ _ _ _ _ _ _ _ _ _ _ _ _ _ _ _ _ _ _ _ _ _ _ _ _ _ _ _ _ _ _ _ _ _ _ _ _ _ _ _ _ _ _ _ _ _ _ _ _ _ _ _ _ _ _ _ _ _ _ _ _ _ _ _ _ _ _ _ _ _ _ _ _ _ _ _ _ _ _ _ _ _ _ _ _ _ _ _ _ _ _ _ _ _ _ _ _ _ _ _ _ _ _ _ _ _ _ _ w w6 KB HB g nb cap P n PM s _ vb vx (rounds (sched (blk PM q)) s 64) hvx hvxm HE6.out HV6.out hvbh hso hvo ?_
      intro x22 x261 x262 x263 x264 x265 x266 x267 x268 x269 x270 x271 x272 x273 x274 x275 x276 x277 x278 w7 hE7
      rw [← HCo.out, ← HFo.out] at hE7
      have HE7 := hide hE7.env
      clear hE7 HE6 HV6
      go_wp2
      go_roundw
      case rel => exact ⟨q + 1, P + 64, by go_num, by have := HP.out; omega, by omega, HE7.out⟩
      case measure => have := HP.out; simp [intOf]; omega
    · have d1 : decide ((P : Int) < (n : Int)) = false := by have := Hn.out; simp; omega
      have d1' : decide (P < n) = false := by have := Hn.out; simp; omega
      have hqn : q = nb := by omega
      clear hP
      subst hqn
      have hx := Hx.out
      go_wp2
      exact HE.out
end Go.Proofs.YtheambpddpfcfaaDoor.Sz3
/- The reference's sum: its bytes. -/
namespace Go.Proofs.YtheambpddpfcfaaDoor.Sz9
set_option linter.unusedVariables false
set_option linter.unusedSimpArgs false
set_option maxRecDepth 1000000
open Go.ChangeShapes Go.WideShapes Go.ChangeAt Go.RowKit
open Go.Proofs.YtheambpddpfcfaaDoor.Wu Go.Proofs.YtheambpddpfcfaaDoor.Sm Go.Proofs.YtheambpddpfcfaaDoor.Sk Go.Proofs.YtheambpddpfcfaaDoor.Sc Go.Proofs.YtheambpddpfcfaaDoor.Sxa Go.Proofs.YtheambpddpfcfaaDoor.Sh Go.Proofs.YtheambpddpfcfaaDoor.Sn Go.Proofs.YtheambpddpfcfaaDoor.Sw0 Go.Proofs.YtheambpddpfcfaaDoor.Sf Go.Proofs.YtheambpddpfcfaaDoor.So Go.Proofs.YtheambpddpfcfaaDoor.Sv Go.Proofs.YtheambpddpfcfaaDoor.Ap Go.Proofs.YtheambpddpfcfaaDoor.Sr Go.Proofs.YtheambpddpfcfaaDoor.Srf0 Go.Proofs.YtheambpddpfcfaaDoor.Srf1 Go.Proofs.YtheambpddpfcfaaDoor.Rk Go.Proofs.YtheambpddpfcfaaDoor.Sza Go.Proofs.YtheambpddpfcfaaDoor.Szb
attribute [local go_sem] kUpon_value kUpon_skip kUpon_enter
set_option maxHeartbeats 6400000 in
theorem loop9 (c0 c1 c2 c3 c4 c5 c6 c7 c9 c10 c11 c12 c13 c14 c15 c16 c17 c18 c19 c20 c21 c22 c25 c26 c27 c28 c29 c30 c31 c32 c33 c34 c35 c36 c37 c38 c39 c40 c41 c42 c43 c44 c45 c46 c47 c48 c49 c50 c51 c52 c53 c54 c55 c56 c57 c58 c59 c60 c61 c62 c63 c64 c65 c66 c67 c68 c69 c70 c71 c72 c73 c74 c75 c76 c77 c78 c79 c80 c81 c82 c83 c84 c85 c86 c87 c88 c89 c90 c91 c92 c93 c94 c95 c96 c97 c98 c99 c100 c101 c102 c103 c104 c105 c106 c107 c108 c109 c110 c111 c112 c113 c114 c115 c116 c117 c118 c119 c120 c121 c122 c123 c124 c125 c126 c127 c128 c129 c130 c131 c132 c133 c134 c135 c136 c137 c138 c139 c140 c141 c142 c143 c144 c145 c146 c147 c148 c149 c150 c151 c152 c153 c154 c155 c156 c157 c158 c159 c160 c161 c162 c163 c164 c165 c166 c167 c168 c169 c170 c171 c172 c173 c174 c175 c176 c177 c178 c179 c180 c181 c182 c183 c184 c185 c186 c187 c188 c189 c190 c191 c192 c193 c194 c195 c196 c197 c198 c199 c200 c201 c202 c203 c204 c205 c206 c207 c208 c209 c210 c211 c212 c213 c214 c215 c216 c217 c218 c219 c220 c221 c222 c223 c224 c225 c226 c227 c228 c229 c230 c231 c232 c233 c234 c235 c236 c237 c238 c239 c240 c241 c242 c243 c244 c245 c246 c247 c248 c249 c250 c251 c252 c253 c254 c255 c256 c257 c258 c259 c260 c261 c262 c263 c264 c265 c266 c267 c268 c269 c270 c271 c272 c273 c274 c275 c276 c277 c278 c279 c298 u280 u281 u282 u283 u284 u285 u286 u287 u288 u289 u290 u291 u292 u293 u294 u295 u296 u297 : Value) (wr : World) (HB OB : Nat) (s : S8) (Q : Exit → Act → World → Prop) (hs : wr.heap[HB]? = some (.cells (u64s s.list) 174 (0, 0))) (ho : wr.heap[OB]? = some (.cells (u8s (oRow s 0)) 61 (0, 0))) (hne : HB ≠ OB) (hok : s.ok)
    (hexit : ∀ (x24 x280 x281 x282 x283 x284 x285 x286 x287 x288 x289 x290 x291 x292 x293 x294 x295 x296 x297 : Value) (wx : World), wx.heap[OB]? = some (.cells (u8s (bytes8 s)) 61 (0, 0)) ∧ wr.grownBy wx (some OB) → Q (.exit 16) ⟨List.toArray (c0 :: c1 :: c2 :: c3 :: c4 :: c5 :: c6 :: c7 :: (.slice (some ⟨HB, 0, none⟩) 8 8 : Value) :: c9 :: c10 :: c11 :: c12 :: c13 :: c14 :: c15 :: c16 :: c17 :: c18 :: c19 :: c20 :: c21 :: c22 :: (.pointer (some ⟨OB, 0, none⟩) : Value) :: x24 :: c25 :: c26 :: c27 :: c28 :: c29 :: c30 :: c31 :: c32 :: c33 :: c34 :: c35 :: c36 :: c37 :: c38 :: c39 :: c40 :: c41 :: c42 :: c43 :: c44 :: c45 :: c46 :: c47 :: c48 :: c49 :: c50 :: c51 :: c52 :: c53 :: c54 :: c55 :: c56 :: c57 :: c58 :: c59 :: c60 :: c61 :: c62 :: c63 :: c64 :: c65 :: c66 :: c67 :: c68 :: c69 :: c70 :: c71 :: c72 :: c73 :: c74 :: c75 :: c76 :: c77 :: c78 :: c79 :: c80 :: c81 :: c82 :: c83 :: c84 :: c85 :: c86 :: c87 :: c88 :: c89 :: c90 :: c91 :: c92 :: c93 :: c94 :: c95 :: c96 :: c97 :: c98 :: c99 :: c100 :: c101 :: c102 :: c103 :: c104 :: c105 :: c106 :: c107 :: c108 :: c109 :: c110 :: c111 :: c112 :: c113 :: c114 :: c115 :: c116 :: c117 :: c118 :: c119 :: c120 :: c121 :: c122 :: c123 :: c124 :: c125 :: c126 :: c127 :: c128 :: c129 :: c130 :: c131 :: c132 :: c133 :: c134 :: c135 :: c136 :: c137 :: c138 :: c139 :: c140 :: c141 :: c142 :: c143 :: c144 :: c145 :: c146 :: c147 :: c148 :: c149 :: c150 :: c151 :: c152 :: c153 :: c154 :: c155 :: c156 :: c157 :: c158 :: c159 :: c160 :: c161 :: c162 :: c163 :: c164 :: c165 :: c166 :: c167 :: c168 :: c169 :: c170 :: c171 :: c172 :: c173 :: c174 :: c175 :: c176 :: c177 :: c178 :: c179 :: c180 :: c181 :: c182 :: c183 :: c184 :: c185 :: c186 :: c187 :: c188 :: c189 :: c190 :: c191 :: c192 :: c193 :: c194 :: c195 :: c196 :: c197 :: c198 :: c199 :: c200 :: c201 :: c202 :: c203 :: c204 :: c205 :: c206 :: c207 :: c208 :: c209 :: c210 :: c211 :: c212 :: c213 :: c214 :: c215 :: c216 :: c217 :: c218 :: c219 :: c220 :: c221 :: c222 :: c223 :: c224 :: c225 :: c226 :: c227 :: c228 :: c229 :: c230 :: c231 :: c232 :: c233 :: c234 :: c235 :: c236 :: c237 :: c238 :: c239 :: c240 :: c241 :: c242 :: c243 :: c244 :: c245 :: c246 :: c247 :: c248 :: c249 :: c250 :: c251 :: c252 :: c253 :: c254 :: c255 :: c256 :: c257 :: c258 :: c259 :: c260 :: c261 :: c262 :: c263 :: c264 :: c265 :: c266 :: c267 :: c268 :: c269 :: c270 :: c271 :: c272 :: c273 :: c274 :: c275 :: c276 :: c277 :: c278 :: c279 :: x280 :: x281 :: x282 :: x283 :: x284 :: x285 :: x286 :: x287 :: x288 :: x289 :: x290 :: x291 :: x292 :: x293 :: x294 :: x295 :: x296 :: x297 :: c298 :: []), []⟩ wx) :
    Code.wp Tryd.prog (lc 8) Q ⟨List.toArray (c0 :: c1 :: c2 :: c3 :: c4 :: c5 :: c6 :: c7 :: (.slice (some ⟨HB, 0, none⟩) 8 8 : Value) :: c9 :: c10 :: c11 :: c12 :: c13 :: c14 :: c15 :: c16 :: c17 :: c18 :: c19 :: c20 :: c21 :: c22 :: (.pointer (some ⟨OB, 0, none⟩) : Value) :: (.int .i64 0 : Value) :: c25 :: c26 :: c27 :: c28 :: c29 :: c30 :: c31 :: c32 :: c33 :: c34 :: c35 :: c36 :: c37 :: c38 :: c39 :: c40 :: c41 :: c42 :: c43 :: c44 :: c45 :: c46 :: c47 :: c48 :: c49 :: c50 :: c51 :: c52 :: c53 :: c54 :: c55 :: c56 :: c57 :: c58 :: c59 :: c60 :: c61 :: c62 :: c63 :: c64 :: c65 :: c66 :: c67 :: c68 :: c69 :: c70 :: c71 :: c72 :: c73 :: c74 :: c75 :: c76 :: c77 :: c78 :: c79 :: c80 :: c81 :: c82 :: c83 :: c84 :: c85 :: c86 :: c87 :: c88 :: c89 :: c90 :: c91 :: c92 :: c93 :: c94 :: c95 :: c96 :: c97 :: c98 :: c99 :: c100 :: c101 :: c102 :: c103 :: c104 :: c105 :: c106 :: c107 :: c108 :: c109 :: c110 :: c111 :: c112 :: c113 :: c114 :: c115 :: c116 :: c117 :: c118 :: c119 :: c120 :: c121 :: c122 :: c123 :: c124 :: c125 :: c126 :: c127 :: c128 :: c129 :: c130 :: c131 :: c132 :: c133 :: c134 :: c135 :: c136 :: c137 :: c138 :: c139 :: c140 :: c141 :: c142 :: c143 :: c144 :: c145 :: c146 :: c147 :: c148 :: c149 :: c150 :: c151 :: c152 :: c153 :: c154 :: c155 :: c156 :: c157 :: c158 :: c159 :: c160 :: c161 :: c162 :: c163 :: c164 :: c165 :: c166 :: c167 :: c168 :: c169 :: c170 :: c171 :: c172 :: c173 :: c174 :: c175 :: c176 :: c177 :: c178 :: c179 :: c180 :: c181 :: c182 :: c183 :: c184 :: c185 :: c186 :: c187 :: c188 :: c189 :: c190 :: c191 :: c192 :: c193 :: c194 :: c195 :: c196 :: c197 :: c198 :: c199 :: c200 :: c201 :: c202 :: c203 :: c204 :: c205 :: c206 :: c207 :: c208 :: c209 :: c210 :: c211 :: c212 :: c213 :: c214 :: c215 :: c216 :: c217 :: c218 :: c219 :: c220 :: c221 :: c222 :: c223 :: c224 :: c225 :: c226 :: c227 :: c228 :: c229 :: c230 :: c231 :: c232 :: c233 :: c234 :: c235 :: c236 :: c237 :: c238 :: c239 :: c240 :: c241 :: c242 :: c243 :: c244 :: c245 :: c246 :: c247 :: c248 :: c249 :: c250 :: c251 :: c252 :: c253 :: c254 :: c255 :: c256 :: c257 :: c258 :: c259 :: c260 :: c261 :: c262 :: c263 :: c264 :: c265 :: c266 :: c267 :: c268 :: c269 :: c270 :: c271 :: c272 :: c273 :: c274 :: c275 :: c276 :: c277 :: c278 :: c279 :: u280 :: u281 :: u282 :: u283 :: u284 :: u285 :: u286 :: u287 :: u288 :: u289 :: u290 :: u291 :: u292 :: u293 :: u294 :: u295 :: u296 :: u297 :: c298 :: []), []⟩ wr := by
  conv => arg 2; whnf
  have HS := hide hs
  have HO := hide ho
  have Hx := hide hexit
  clear hs ho hexit
  go_loopw [24] (fun c wx => ∃ i : Nat, c = .int .i64 (i : Int) ∧ i ≤ 32 ∧ wx.heap[OB]? = some (.cells (u8s (oRow s i)) 61 (0, 0)) ∧ wr.grownBy wx (some OB)) (fun c _ => 32 - (intOf c).toNat)
  case atStart => exact ⟨0, rfl, Nat.zero_le _, HO.out, World.grownBy.refl _ _⟩
  case round =>
    clear HO
    obtain ⟨i, rfl, hi, hO, hG⟩ := hrel
    by_cases hlt : i < 32
    · have d1 : decide ((i : Int) < 32) = true := by simp; omega
      have d1' : decide (i < 32) = true := by simp; omega
      have li : (i : Int) < 32 := by omega
      have x0 := row64 (keepG hG hne HS.out) (i := i / 4) (by show i / 4 < 8; omega)
      have y0 := row8 hO (i := i) (by rw [oRow_length _ _ hi]; exact hlt)
      have z0 := blk_free (i := i) hO
      have hst := blk_set (i := i) hO (.int .u8 ((((s.list.getD (i / 4) 0 >>> (24 - 8 * (i % 4))) % 256 : Nat)) : Int))
      rw [u8s_set, oRow_step s i hlt] at hst
      have hg2 := grown_setCell hG i (.int .u8 ((((s.list.getD (i / 4) 0 >>> (24 - 8 * (i % 4))) % 256 : Nat)) : Int))
      have bA := list_lt hok (i / 4)
      generalize s.list.getD (i / 4) 0 = A at *
      generalize (oRow s i).getD i 0 = O at *
      have HSt := hide hst
      have HG2 := hide hg2
      clear hst hg2 hO hG
      have e1 : (i : Int).tdiv 4 = ((i / 4 : Nat) : Int) := by rw [Int.tdiv_eq_ediv_of_nonneg (by omega)]; omega
      have e2 : (i : Int).tmod 4 = ((i % 4 : Nat) : Int) := by rw [Int.tmod_eq_emod_of_nonneg (by omega)]; omega
      have e3 : ((i / 4 : Nat) : Int) < 8 := by omega
      obtain ⟨q4, hq4⟩ : ∃ q4, q4 = i / 4 := ⟨_, rfl⟩
      obtain ⟨r4, hr4⟩ : ∃ r4, r4 = i % 4 := ⟨_, rfl⟩
      have hr4b : r4 < 4 := by omega
      go_wp2
      go_roundw
      case rel =>
        rw [shr_mod]
        exact ⟨i + 1, by go_num, by omega, HSt.out, HG2.out⟩
      case measure => simp [intOf]; omega
    · have hk4 : i = 32 := by omega
      subst hk4
      rw [oRow_end] at hO
      have HOe := hide hO
      have HGe := hide hG
      clear hO hG
      have hx := Hx.out
      go_wp2
      exact ⟨HOe.out, HGe.out⟩
end Go.Proofs.YtheambpddpfcfaaDoor.Sz9
/- The reference's sum of a text. -/
namespace Go.Proofs.YtheambpddpfcfaaDoor.Srf
set_option linter.unusedVariables false
set_option linter.unusedSimpArgs false
set_option maxRecDepth 100000
open Go.ChangeShapes Go.WideShapes Go.ChangeAt Go.RowKit
open Go.Proofs.YtheambpddpfcfaaDoor.Wu Go.Proofs.YtheambpddpfcfaaDoor.Sm Go.Proofs.YtheambpddpfcfaaDoor.Sk Go.Proofs.YtheambpddpfcfaaDoor.Sc Go.Proofs.YtheambpddpfcfaaDoor.Sxa Go.Proofs.YtheambpddpfcfaaDoor.Sh Go.Proofs.YtheambpddpfcfaaDoor.Sn Go.Proofs.YtheambpddpfcfaaDoor.Sw0 Go.Proofs.YtheambpddpfcfaaDoor.Sf Go.Proofs.YtheambpddpfcfaaDoor.So Go.Proofs.YtheambpddpfcfaaDoor.St Go.Proofs.YtheambpddpfcfaaDoor.Sv Go.Proofs.YtheambpddpfcfaaDoor.Ap Go.Proofs.YtheambpddpfcfaaDoor.Sr Go.Proofs.YtheambpddpfcfaaDoor.Srf0 Go.Proofs.YtheambpddpfcfaaDoor.Srf1 Go.Proofs.YtheambpddpfcfaaDoor.Rk Go.Proofs.YtheambpddpfcfaaDoor.Sza Go.Proofs.YtheambpddpfcfaaDoor.Szb
attribute [local go_sem] kUpon_value kUpon_skip kUpon_enter

theorem gap_no (n k : Nat) (h : k < gap n) : (n + 1 + k) % 64 ≠ 56 := by unfold gap at h; omega
theorem gap_yes (n : Nat) : (n + 1 + gap n) % 64 = 56 := by unfold gap; omega
theorem src_one {w : World} {B : Nat} {x : Nat} {T : TypeId} {f : Nat × Nat} (h : w.heap[B]? = some (.cells #[.int .u8 (x : Int)] T f)) (hx : x < 256) : SrcB w (some ⟨B, 0, none⟩) 1 [x] :=
  ⟨rfl, by intro z hz; simp only [List.mem_singleton] at hz; omega, B, 0, fun _ => rfl, fun i hi => by
    obtain rfl : i = 0 := by omega
    exact blk_cell h rfl⟩
theorem len8_take (c j : Nat) (h : j < 8) : (len8 c).take (j + 1) = (len8 c).take j ++ [c / 2 ^ (8 * (7 - j)) % 256] := by
  match j, h with
  | 0, _ => simp [len8]
  | 1, _ => simp [len8]
  | 2, _ => simp [len8]
  | 3, _ => simp [len8]
  | 4, _ => simp [len8]
  | 5, _ => simp [len8]
  | 6, _ => simp [len8]
  | 7, _ => simp [len8]
/-- The message behind j of the length's bytes. -/
def padR (M : List Nat) (j : Nat) : List Nat := M ++ 128 :: (zeros (gap M.length) ++ (len8 (8 * M.length)).take j)
theorem padR_zero (M : List Nat) : padR M 0 = M ++ 128 :: zeros (gap M.length) := by simp [padR]
theorem padR_step (M : List Nat) (j : Nat) (h : j < 8) : padR M (j + 1) = padR M j ++ [8 * M.length / 2 ^ (8 * (7 - j)) % 256] := by
  unfold padR; rw [len8_take _ _ h]; simp
theorem padR_end (M : List Nat) (h : M.length ≤ 1000000) : padR M 8 = padded M := by
  unfold padR padded tail
  rw [Nat.mod_eq_of_lt (by omega)]
  rfl
theorem padR_all {M : List Nat} (h : All8 M) (j : Nat) : All8 (padR M j) := by
  refine all8_append h ?_
  intro z hz
  simp only [List.mem_cons, List.mem_append] at hz
  rcases hz with rfl | hz | hz
  · omega
  · exact all8_zeros _ z hz
  · exact all8_len8 _ z (List.mem_of_mem_take hz)
set_option maxHeartbeats 3200000 in
theorem loop3c {code : Code} (hcode : lc 2 = code) (c0 c1 c4 c5 c23 c24 c25 c26 c27 c28 c29 c30 c31 c32 c33 c34 c35 c36 c37 c38 c39 c40 c41 c42 c43 c44 c45 c46 c47 c48 c49 c50 c51 c52 c53 c279 c280 c281 c282 c283 c284 c285 c286 c287 c288 c289 c290 c291 c292 c293 c294 c295 c296 c297 c298 u10 u11 u12 u13 u14 u15 u16 u17 u18 u19 u20 u21 u22 u54 u55 u56 u57 u58 u59 u60 u61 u62 u63 u64 u65 u66 u67 u68 u69 u70 u71 u72 u73 u74 u75 u76 u77 u78 u79 u80 u81 u82 u83 u84 u85 u86 u87 u88 u89 u90 u91 u92 u93 u94 u95 u96 u97 u98 u99 u100 u101 u102 u103 u104 u105 u106 u107 u108 u109 u110 u111 u112 u113 u114 u115 u116 u117 u118 u119 u120 u121 u122 u123 u124 u125 u126 u127 u128 u129 u130 u131 u132 u133 u134 u135 u136 u137 u138 u139 u140 u141 u142 u143 u144 u145 u146 u147 u148 u149 u150 u151 u152 u153 u154 u155 u156 u157 u158 u159 u160 u161 u162 u163 u164 u165 u166 u167 u168 u169 u170 u171 u172 u173 u174 u175 u176 u177 u178 u179 u180 u181 u182 u183 u184 u185 u186 u187 u188 u189 u190 u191 u192 u193 u194 u195 u196 u197 u198 u199 u200 u201 u202 u203 u204 u205 u206 u207 u208 u209 u210 u211 u212 u213 u214 u215 u216 u217 u218 u219 u220 u221 u222 u223 u224 u225 u226 u227 u228 u229 u230 u231 u232 u233 u234 u235 u236 u237 u238 u239 u240 u241 u242 u243 u244 u245 u246 u247 u248 u249 u250 u251 u252 u253 u254 u255 u256 u257 u258 u259 u260 u261 u262 u263 u264 u265 u266 u267 u268 u269 u270 u271 u272 u273 u274 u275 u276 u277 u278 : Value) (w wr : World) (KB HB g nb cap n : Nat) (PM : List Nat) (Q : Exit → Act → World → Prop) (hn : n = 64 * nb) (hE : Env w wr KB HB g (64 * nb) cap PM H0) (h8 : All8 PM) (hnb : nb ≤ 40000) (nk : KB ≠ HB) (ng : g ≠ HB) (nr : w.heap.size < HB) (hgs : w.heap.size < g)
    (hexit : ∀ (x9 x10 x11 x12 x13 x14 x15 x16 x17 x18 x19 x20 x21 x22 x54 x55 x56 x57 x58 x59 x60 x61 x62 x63 x64 x65 x66 x67 x68 x69 x70 x71 x72 x73 x74 x75 x76 x77 x78 x79 x80 x81 x82 x83 x84 x85 x86 x87 x88 x89 x90 x91 x92 x93 x94 x95 x96 x97 x98 x99 x100 x101 x102 x103 x104 x105 x106 x107 x108 x109 x110 x111 x112 x113 x114 x115 x116 x117 x118 x119 x120 x121 x122 x123 x124 x125 x126 x127 x128 x129 x130 x131 x132 x133 x134 x135 x136 x137 x138 x139 x140 x141 x142 x143 x144 x145 x146 x147 x148 x149 x150 x151 x152 x153 x154 x155 x156 x157 x158 x159 x160 x161 x162 x163 x164 x165 x166 x167 x168 x169 x170 x171 x172 x173 x174 x175 x176 x177 x178 x179 x180 x181 x182 x183 x184 x185 x186 x187 x188 x189 x190 x191 x192 x193 x194 x195 x196 x197 x198 x199 x200 x201 x202 x203 x204 x205 x206 x207 x208 x209 x210 x211 x212 x213 x214 x215 x216 x217 x218 x219 x220 x221 x222 x223 x224 x225 x226 x227 x228 x229 x230 x231 x232 x233 x234 x235 x236 x237 x238 x239 x240 x241 x242 x243 x244 x245 x246 x247 x248 x249 x250 x251 x252 x253 x254 x255 x256 x257 x258 x259 x260 x261 x262 x263 x264 x265 x266 x267 x268 x269 x270 x271 x272 x273 x274 x275 x276 x277 x278 : Value) (wx : World), Env w wx KB HB g (64 * nb) cap PM (fold H0 PM nb) → Q (.exit 4) ⟨List.toArray (c0 :: c1 :: (.pointer (some ⟨w.heap.size, 0, none⟩) : Value) :: (.slice (some ⟨g, 0, none⟩) n cap : Value) :: c4 :: c5 :: (.slice (some ⟨KB, 0, none⟩) 64 64 : Value) :: (.int .u64 4294967296 : Value) :: (.slice (some ⟨HB, 0, none⟩) 8 8 : Value) :: x9 :: x10 :: x11 :: x12 :: x13 :: x14 :: x15 :: x16 :: x17 :: x18 :: x19 :: x20 :: x21 :: x22 :: c23 :: c24 :: c25 :: c26 :: c27 :: c28 :: c29 :: c30 :: c31 :: c32 :: c33 :: c34 :: c35 :: c36 :: c37 :: c38 :: c39 :: c40 :: c41 :: c42 :: c43 :: c44 :: c45 :: c46 :: c47 :: c48 :: c49 :: c50 :: c51 :: c52 :: c53 :: x54 :: x55 :: x56 :: x57 :: x58 :: x59 :: x60 :: x61 :: x62 :: x63 :: x64 :: x65 :: x66 :: x67 :: x68 :: x69 :: x70 :: x71 :: x72 :: x73 :: x74 :: x75 :: x76 :: x77 :: x78 :: x79 :: x80 :: x81 :: x82 :: x83 :: x84 :: x85 :: x86 :: x87 :: x88 :: x89 :: x90 :: x91 :: x92 :: x93 :: x94 :: x95 :: x96 :: x97 :: x98 :: x99 :: x100 :: x101 :: x102 :: x103 :: x104 :: x105 :: x106 :: x107 :: x108 :: x109 :: x110 :: x111 :: x112 :: x113 :: x114 :: x115 :: x116 :: x117 :: x118 :: x119 :: x120 :: x121 :: x122 :: x123 :: x124 :: x125 :: x126 :: x127 :: x128 :: x129 :: x130 :: x131 :: x132 :: x133 :: x134 :: x135 :: x136 :: x137 :: x138 :: x139 :: x140 :: x141 :: x142 :: x143 :: x144 :: x145 :: x146 :: x147 :: x148 :: x149 :: x150 :: x151 :: x152 :: x153 :: x154 :: x155 :: x156 :: x157 :: x158 :: x159 :: x160 :: x161 :: x162 :: x163 :: x164 :: x165 :: x166 :: x167 :: x168 :: x169 :: x170 :: x171 :: x172 :: x173 :: x174 :: x175 :: x176 :: x177 :: x178 :: x179 :: x180 :: x181 :: x182 :: x183 :: x184 :: x185 :: x186 :: x187 :: x188 :: x189 :: x190 :: x191 :: x192 :: x193 :: x194 :: x195 :: x196 :: x197 :: x198 :: x199 :: x200 :: x201 :: x202 :: x203 :: x204 :: x205 :: x206 :: x207 :: x208 :: x209 :: x210 :: x211 :: x212 :: x213 :: x214 :: x215 :: x216 :: x217 :: x218 :: x219 :: x220 :: x221 :: x222 :: x223 :: x224 :: x225 :: x226 :: x227 :: x228 :: x229 :: x230 :: x231 :: x232 :: x233 :: x234 :: x235 :: x236 :: x237 :: x238 :: x239 :: x240 :: x241 :: x242 :: x243 :: x244 :: x245 :: x246 :: x247 :: x248 :: x249 :: x250 :: x251 :: x252 :: x253 :: x254 :: x255 :: x256 :: x257 :: x258 :: x259 :: x260 :: x261 :: x262 :: x263 :: x264 :: x265 :: x266 :: x267 :: x268 :: x269 :: x270 :: x271 :: x272 :: x273 :: x274 :: x275 :: x276 :: x277 :: x278 :: c279 :: c280 :: c281 :: c282 :: c283 :: c284 :: c285 :: c286 :: c287 :: c288 :: c289 :: c290 :: c291 :: c292 :: c293 :: c294 :: c295 :: c296 :: c297 :: c298 :: []), []⟩ wx) :
    Code.wp Tryd.prog code Q ⟨List.toArray (c0 :: c1 :: (.pointer (some ⟨w.heap.size, 0, none⟩) : Value) :: (.slice (some ⟨g, 0, none⟩) n cap : Value) :: c4 :: c5 :: (.slice (some ⟨KB, 0, none⟩) 64 64 : Value) :: (.int .u64 4294967296 : Value) :: (.slice (some ⟨HB, 0, none⟩) 8 8 : Value) :: (.int .i64 0 : Value) :: u10 :: u11 :: u12 :: u13 :: u14 :: u15 :: u16 :: u17 :: u18 :: u19 :: u20 :: u21 :: u22 :: c23 :: c24 :: c25 :: c26 :: c27 :: c28 :: c29 :: c30 :: c31 :: c32 :: c33 :: c34 :: c35 :: c36 :: c37 :: c38 :: c39 :: c40 :: c41 :: c42 :: c43 :: c44 :: c45 :: c46 :: c47 :: c48 :: c49 :: c50 :: c51 :: c52 :: c53 :: u54 :: u55 :: u56 :: u57 :: u58 :: u59 :: u60 :: u61 :: u62 :: u63 :: u64 :: u65 :: u66 :: u67 :: u68 :: u69 :: u70 :: u71 :: u72 :: u73 :: u74 :: u75 :: u76 :: u77 :: u78 :: u79 :: u80 :: u81 :: u82 :: u83 :: u84 :: u85 :: u86 :: u87 :: u88 :: u89 :: u90 :: u91 :: u92 :: u93 :: u94 :: u95 :: u96 :: u97 :: u98 :: u99 :: u100 :: u101 :: u102 :: u103 :: u104 :: u105 :: u106 :: u107 :: u108 :: u109 :: u110 :: u111 :: u112 :: u113 :: u114 :: u115 :: u116 :: u117 :: u118 :: u119 :: u120 :: u121 :: u122 :: u123 :: u124 :: u125 :: u126 :: u127 :: u128 :: u129 :: u130 :: u131 :: u132 :: u133 :: u134 :: u135 :: u136 :: u137 :: u138 :: u139 :: u140 :: u141 :: u142 :: u143 :: u144 :: u145 :: u146 :: u147 :: u148 :: u149 :: u150 :: u151 :: u152 :: u153 :: u154 :: u155 :: u156 :: u157 :: u158 :: u159 :: u160 :: u161 :: u162 :: u163 :: u164 :: u165 :: u166 :: u167 :: u168 :: u169 :: u170 :: u171 :: u172 :: u173 :: u174 :: u175 :: u176 :: u177 :: u178 :: u179 :: u180 :: u181 :: u182 :: u183 :: u184 :: u185 :: u186 :: u187 :: u188 :: u189 :: u190 :: u191 :: u192 :: u193 :: u194 :: u195 :: u196 :: u197 :: u198 :: u199 :: u200 :: u201 :: u202 :: u203 :: u204 :: u205 :: u206 :: u207 :: u208 :: u209 :: u210 :: u211 :: u212 :: u213 :: u214 :: u215 :: u216 :: u217 :: u218 :: u219 :: u220 :: u221 :: u222 :: u223 :: u224 :: u225 :: u226 :: u227 :: u228 :: u229 :: u230 :: u231 :: u232 :: u233 :: u234 :: u235 :: u236 :: u237 :: u238 :: u239 :: u240 :: u241 :: u242 :: u243 :: u244 :: u245 :: u246 :: u247 :: u248 :: u249 :: u250 :: u251 :: u252 :: u253 :: u254 :: u255 :: u256 :: u257 :: u258 :: u259 :: u260 :: u261 :: u262 :: u263 :: u264 :: u265 :: u266 :: u267 :: u268 :: u269 :: u270 :: u271 :: u272 :: u273 :: u274 :: u275 :: u276 :: u277 :: u278 :: c279 :: c280 :: c281 :: c282 :: c283 :: c284 :: c285 :: c286 :: c287 :: c288 :: c289 :: c290 :: c291 :: c292 :: c293 :: c294 :: c295 :: c296 :: c297 :: c298 :: []), []⟩ wr  := by
  subst hcode
  exact Sz3.loop3 c0 c1 c4 c5 c23 c24 c25 c26 c27 c28 c29 c30 c31 c32 c33 c34 c35 c36 c37 c38 c39 c40 c41 c42 c43 c44 c45 c46 c47 c48 c49 c50 c51 c52 c53 c279 c280 c281 c282 c283 c284 c285 c286 c287 c288 c289 c290 c291 c292 c293 c294 c295 c296 c297 c298 u10 u11 u12 u13 u14 u15 u16 u17 u18 u19 u20 u21 u22 u54 u55 u56 u57 u58 u59 u60 u61 u62 u63 u64 u65 u66 u67 u68 u69 u70 u71 u72 u73 u74 u75 u76 u77 u78 u79 u80 u81 u82 u83 u84 u85 u86 u87 u88 u89 u90 u91 u92 u93 u94 u95 u96 u97 u98 u99 u100 u101 u102 u103 u104 u105 u106 u107 u108 u109 u110 u111 u112 u113 u114 u115 u116 u117 u118 u119 u120 u121 u122 u123 u124 u125 u126 u127 u128 u129 u130 u131 u132 u133 u134 u135 u136 u137 u138 u139 u140 u141 u142 u143 u144 u145 u146 u147 u148 u149 u150 u151 u152 u153 u154 u155 u156 u157 u158 u159 u160 u161 u162 u163 u164 u165 u166 u167 u168 u169 u170 u171 u172 u173 u174 u175 u176 u177 u178 u179 u180 u181 u182 u183 u184 u185 u186 u187 u188 u189 u190 u191 u192 u193 u194 u195 u196 u197 u198 u199 u200 u201 u202 u203 u204 u205 u206 u207 u208 u209 u210 u211 u212 u213 u214 u215 u216 u217 u218 u219 u220 u221 u222 u223 u224 u225 u226 u227 u228 u229 u230 u231 u232 u233 u234 u235 u236 u237 u238 u239 u240 u241 u242 u243 u244 u245 u246 u247 u248 u249 u250 u251 u252 u253 u254 u255 u256 u257 u258 u259 u260 u261 u262 u263 u264 u265 u266 u267 u268 u269 u270 u271 u272 u273 u274 u275 u276 u277 u278 w wr KB HB g nb cap n PM Q hn hE h8 hnb nk ng nr hgs hexit
set_option maxHeartbeats 3200000 in
set_option maxRecDepth 100000 in
theorem refOf_c (M : List Nat) (w : World) (h8 : All8 M) (hbig : M.length ≤ 1000000) :
    Calls Tryd.prog 81 #[.string (strN M)] w fun e w' => e = .returned (.agg (u8s (sha M))) ∧ Below w.heap.size w w' := by
  obtain ⟨cap0, w0, hcv, hD0, hB0⟩ := conv_bytes (w.alloc (.cells (u8s (zeros 32)) 61)) M h8 (by omega)
  have HR0 := hide (below_blk hB0 (by simp) (heap_last w (.cells (u8s (zeros 32)) 61)))
  have HB0 := hide ((below_new w (.cells (u8s (zeros 32)) 61)).trans (hB0.mono (by simp)))
  have HD0 := hide hD0
  rw [zlit8.symm] at hcv
  clear hB0 hD0
  go_enter Tryd.func81, Tryd.ntmps81
  have HS0 := hide (src_one (heap_last w0 (.cells #[.int .u8 ((128 : Nat) : Int)] 5)) (by omega))
  have HD1 := hide (HD0.out.below (below_new w0 (.cells #[.int .u8 ((128 : Nat) : Int)] 5)) HD0.out.lt)
  have HR1 := hide (heap_old HR0.out (.cells #[.int .u8 ((128 : Nat) : Int)] 5))
  have HB1 := hide (HB0.out.alloc HB0.out.size (.cells #[.int .u8 ((128 : Nat) : Int)] 5))
  simp only [World.size_alloc] at HD1
  clear HD0 HR0 HB0
  go_wp2_with (refine wpList_append_dst rfl (.tmp 26) (.tmp 27) rfl (w.heap.size + 1) M.length cap0 M (some ⟨w0.heap.size, 0, none⟩) 1 1 [128] rfl rfl HD1.out HS0.out (by omega) (fun h => by cases h) ?_)
  intro g1 cap1 w1 HD2 HG2 hg
  clear hcv
  have HR2 := hide (keepG HG2.out (by omega) HR1.out)
  have HB2 := hide (belowG HB1.out HG2.out (by omega) HB1.out.size)
  have hg1 : w.heap.size < g1 := by
    have := heap_lt HR1.out
    simp only [World.size_alloc] at this hg
    rcases hg with h | h <;> omega
  clear HD1 HR1 HB1 HG2 hg HS0
  refine of_hid ?_
  as_aux_lemma =>
    have hgl := gap_lt M.length
    go_wp2_with fail
    go_loopw [3] (fun b wr => ∃ k g cap : Nat, k ≤ gap M.length ∧ b = .slice (some ⟨g, 0, none⟩) (M.length + 1 + k) cap ∧ w.heap.size < g ∧ Dst wr g (M.length + 1 + k) cap (M ++ 128 :: zeros k) ∧ wr.heap[w.heap.size]? = some (.cells (u8s (zeros 32)) 61 (0, 0)) ∧ Below w.heap.size w wr) (fun b _ => match b with | .slice _ n _ => M.length + 1 + gap M.length - n | _ => 0)
    case atStart => exact ⟨0, g1, cap1, by omega, rfl, hg1, HD2.out, HR2.out, HB2.out⟩
    case round =>
      clear HD2 HR2 HB2 hg1
      obtain ⟨k, g, cap, hk, rfl, hg, hd, hr, hb⟩ := hrel
      have HD := hide hd
      have HR := hide hr
      have HB := hide hb
      clear hd hr hb
      obtain ⟨n, hn⟩ : ∃ n, n = M.length + 1 + k := ⟨_, rfl⟩
      by_cases hlt : k < gap M.length
      · have h56 := gap_no M.length k hlt
        rw [← hn] at h56 HD ⊢
        have hnb : n ≤ 2000000 := by omega
        have HN := hide hn
        clear hn
        have q1 : ((n : Int) % 64 == 56) = false := by simp; omega
        have q2 : ((n : Int) % 64 != 56) = true := by simp; omega
        have HS := hide (src_one (heap_last wr (.cells #[.int .u8 ((0 : Nat) : Int)] 5)) (by omega))
        have HD1 := hide (HD.out.below (below_new wr (.cells #[.int .u8 ((0 : Nat) : Int)] 5)) HD.out.lt)
        have HR1 := hide (heap_old HR.out (.cells #[.int .u8 ((0 : Nat) : Int)] 5))
        have HB1 := hide (HB.out.alloc HB.out.size (.cells #[.int .u8 ((0 : Nat) : Int)] 5))
        clear HD HR HB
        go_wp2_with (refine wpList_append_dst rfl (.tmp 33) (.tmp 34) rfl g n cap _ (some ⟨wr.heap.size, 0, none⟩) 1 1 [0] rfl rfl HD1.out HS.out (by omega) (fun h => by cases h) ?_)
        intro g2 cap2 w2 HD3 HG3 hgg
        have HR3 := hide (keepG HG3.out (by omega) HR1.out)
        have HB3 := hide (belowG HB1.out HG3.out (by omega) HB1.out.size)
        have hg2 : w.heap.size < g2 := by
          have := heap_lt HR1.out
          simp only [World.size_alloc] at this hgg
          rcases hgg with h | h <;> omega
        clear HD1 HR1 HB1 HG3 hgg HS
        refine of_hid ?_
        go_wp2
        go_roundw
        case rel =>
          refine ⟨k + 1, g2, cap2, by omega, ?_, hg2, ?_, HR3.out, HB3.out⟩
          · rw [show M.length + 1 + (k + 1) = n + 1 by have := HN.out; omega]
          · have e : M ++ 128 :: zeros (k + 1) = M ++ 128 :: (zeros k ++ [0]) := by
              rw [show zeros (k + 1) = zeros k ++ [0] by unfold zeros; rw [List.replicate_succ']]
            rw [e, show M.length + 1 + (k + 1) = n + 1 by have := HN.out; omega]
            exact HD3.out
        case measure => show M.length + 1 + gap M.length - (n + 1) < M.length + 1 + gap M.length - n; have := HN.out; omega
      · have hkg : k = gap M.length := by omega
        have h56 := gap_yes M.length
        rw [← hkg, ← hn] at h56
        rw [← hn] at HD ⊢
        have hnb : n ≤ 2000000 := by omega
        have q1 : ((n : Int) % 64 == 56) = true := by simp; omega
        have q2 : ((n : Int) % 64 != 56) = false := by simp; omega
        have HN : Hid (n = M.length + 1 + gap M.length) := by show _ = _; rw [hn, hkg]
        rw [hkg] at HD
        clear hn hkg hlt hk
        have HD' := HD.out
        rw [← padR_zero] at HD'
        have HDz := hide HD'
        clear HD HD'
        have hsz : (strN M).size = M.length := Srt.strN_size M
        as_aux_lemma =>
        go_wp2_with fail
        clear hsz q1 q2
        go_loopw [5, 3] (fun i b wr => ∃ j g cap : Nat, j ≤ 8 ∧ i = .int .i64 (7 - (j : Int)) ∧ b = .slice (some ⟨g, 0, none⟩) (n + j) cap ∧ w.heap.size < g ∧ Dst wr g (n + j) cap (padR M j) ∧ wr.heap[w.heap.size]? = some (.cells (u8s (zeros 32)) 61 (0, 0)) ∧ Below w.heap.size w wr) (fun _ b _ => match b with | .slice _ l _ => n + 8 - l | _ => 0)
        case atStart => exact ⟨0, g, cap, by omega, rfl, rfl, hg, HDz.out, HR.out, HB.out⟩
        case round =>
          clear HDz HR HB hg
          obtain ⟨j, g, cap, hj, rfl, rfl, hg, hd, hr, hb⟩ := hrel
          have HD := hide hd
          have HR := hide hr
          have HB := hide hb
          clear hd hr hb
          by_cases hlt : j < 8
          · obtain ⟨t, ht⟩ : ∃ t, t = 7 - j := ⟨_, rfl⟩
            have htj : (7 : Int) - (j : Int) = (t : Int) := by omega
            rw [htj]
            have ht7 : t ≤ 7 := by omega
            have Htj := hide htj
            have Hps := hide (padR_step M j hlt)
            rw [← ht] at Hps
            have Ht := hide ht
            clear htj ht
            have c0 : (0 : Int) ≤ (M.length : Int) * 8 := by omega
            have d0 : decide ((0 : Int) ≤ (t : Int)) = true := by simp
            have hev : ((M.length : Int) * 8 / 2 ^ (8 * t)) % 256 = ((8 * M.length / 2 ^ (8 * t) % 256 : Nat) : Int) := by
              rw [Int.natCast_emod, Int.natCast_ediv, Int.natCast_mul, Int.natCast_pow, Int.mul_comm]; rfl
            have hx : 8 * M.length / 2 ^ (8 * t) % 256 < 256 := Nat.mod_lt _ (by omega)
            obtain ⟨x, hxd⟩ : ∃ x, x = 8 * M.length / 2 ^ (8 * t) % 256 := ⟨_, rfl⟩
            rw [← hxd] at hev hx Hps
            clear hxd
            have HS := hide (src_one (heap_last wr (.cells #[.int .u8 (x : Int)] 5)) hx)
            have HD1 := hide (HD.out.below (below_new wr (.cells #[.int .u8 (x : Int)] 5)) HD.out.lt)
            have HR1 := hide (heap_old HR.out (.cells #[.int .u8 (x : Int)] 5))
            have HB1 := hide (HB.out.alloc HB.out.size (.cells #[.int .u8 (x : Int)] 5))
            clear HD HR HB
            as_aux_lemma =>
              go_wp2_with (refine wpList_append_dst rfl (.tmp 44) (.tmp 50) rfl g (n + j) cap _ (some ⟨wr.heap.size, 0, none⟩) 1 1 [x] rfl rfl HD1.out HS.out (by omega) (fun h => by cases h) ?_)
              intro g2 cap2 w2 HD3 HG3 hgg
              have HR3 := hide (keepG HG3.out (by omega) HR1.out)
              have HB3 := hide (belowG HB1.out HG3.out (by omega) HB1.out.size)
              have hg2 : w.heap.size < g2 := by
                have := heap_lt HR1.out
                simp only [World.size_alloc] at this hgg
                rcases hgg with h | h <;> omega
              clear HD1 HR1 HB1 HG3 hgg HS hev
              refine of_hid ?_
              go_wp2
              go_roundw
              case rel =>
                refine ⟨j + 1, g2, cap2, by omega, ?_, rfl, hg2, ?_, HR3.out, HB3.out⟩
                · refine congrArg (Value.int .i64) ?_
                  have := Htj.out
                  omega
                · rw [Hps.out]
                  exact HD3.out
              case measure => show n + 8 - (n + j + 1) < n + 8 - (n + j); omega
          · have hj8 : j = 8 := by omega
            subst hj8
            have HD' := HD.out
            rw [padR_end M hbig] at HD'
            have HDp := hide HD'
            have hpl : n + 8 = (padded M).length := HD'.len.symm
            have HP8 := hide HD'.all
            obtain ⟨PM, hPM⟩ : ∃ PM, PM = padded M := ⟨_, rfl⟩
            have HPM := hide hPM
            have hmod := padded_mod M
            rw [← hPM] at HDp HP8 hpl hmod
            have HPl := hide hpl
            clear HD HD' hpl hPM
            obtain ⟨nb, hnb2⟩ : ∃ nb, n + 8 = 64 * nb := ⟨(n + 8) / 64, by have := HPl.out; omega⟩
            have Hnb := hide hnb2
            rw [hnb2] at HDp HPl ⊢
            have hnb3 : nb ≤ 40000 := by omega
            clear hnb2 HN hmod h56
            as_aux_lemma =>
              have d0 : decide ((0 : Int) ≤ 7 - ((8 : Nat) : Int)) = false := by simp
              go_wp2_with fail
              refine (parts_c wr).mono ?_
              rintro e w3 ⟨rfl, hw3⟩
              have hKs := heap_last wr (.cells (u64s Ks) 174)
              have hEb := below_new wr (.cells (u64s Ks) 174)
              rw [hw3] at hKs hEb
              have hz3 := heap_lt hKs
              have hk3 : wr.heap.size < w3.heap.size := hz3
              have hHs := heap_last w3 (.cells (u64s H0.list) 174)
              have hEc := below_new w3 (.cells (u64s H0.list) 174)
              have HE : Hid (Env w (w3.alloc (.cells (u64s H0.list) 174)) wr.heap.size w3.heap.size g (64 * nb) cap PM H0) :=
                ⟨heap_old hKs _, hHs, (HDp.out.below hEb HDp.out.lt).below hEc (HDp.out.below hEb HDp.out.lt).lt, heap_old (below_blk hEb (heap_lt HR.out) HR.out) _, keepB hEc (Nat.le_refl _) (keepB hEb (Nat.le_refl _) HB.out)⟩
              have hgK : g < wr.heap.size := HDp.out.lt
              clear hHs hEc hKs hEb hw3 HDp HR HB
              have hKH : wr.heap.size < w3.heap.size := hk3
              clear hz3 hk3
              clear d0
              rw [show (7 : Int) - ((8 : Nat) : Int) = -1 from rfl]
              go_wp2_with (refine wpList_buildSlice_to rfl 180 8 _ rfl (some 53) rfl _ (by as_aux_lemma => kernel_rfl) _ _ (build_h0 _) ?_)
              generalize (w3.alloc (.cells (u64s H0.list) 174)) = w4 at *
              generalize w3.heap.size = HB at *
              generalize wr.heap.size = KB at *
              refine of_hid ?_
              go_wp2_with fail
              as_aux_lemma =>
                have hkh : KB ≠ HB := by as_aux_lemma => omega
                have hgh : g ≠ HB := by as_aux_lemma => omega
                have hwh : w.heap.size < HB := by as_aux_lemma => omega
                refine loop3c (by as_aux_lemma => rfl) _ _ _ _ _ _ _ _ _ _ _ _ _ _ _ _ _ _ _ _ _ _ _ _ _ _ _ _ _ _ _ _ _ _ _ _ _ _ _ _ _ _ _ _ _ _ _ _ _ _ _ _ _ _ _ _ _ _ _ _ _ _ _ _ _ _ _ _ _ _ _ _ _ _ _ _ _ _ _ _ _ _ _ _ _ _ _ _ _ _ _ _ _ _ _ _ _ _ _ _ _ _ _ _ _ _ _ _ _ _ _ _ _ _ _ _ _ _ _ _ _ _ _ _ _ _ _ _ _ _ _ _ _ _ _ _ _ _ _ _ _ _ _ _ _ _ _ _ _ _ _ _ _ _ _ _ _ _ _ _ _ _ _ _ _ _ _ _ _ _ _ _ _ _ _ _ _ _ _ _ _ _ _ _ _ _ _ _ _ _ _ _ _ _ _ _ _ _ _ _ _ _ _ _ _ _ _ _ _ _ _ _ _ _ _ _ _ _ _ _ _ _ _ _ _ _ _ _ _ _ _ _ _ _ _ _ _ _ _ _ _ _ _ _ _ _ _ _ _ _ _ _ _ _ _ _ _ _ _ _ _ _ _ _ _ _ _ _ _ _ _ _ _ _ _ _ _ _ _ _ _ _ _ _ _ _ _ _ _ _ _ _ _ w w4 KB HB g nb cap (64 * nb) PM _ rfl HE.out HP8.out hnb3 hkh hgh hwh hg ?_
                intro x9 x10 x11 x12 x13 x14 x15 x16 x17 x18 x19 x20 x21 x22 x54 x55 x56 x57 x58 x59 x60 x61 x62 x63 x64 x65 x66 x67 x68 x69 x70 x71 x72 x73 x74 x75 x76 x77 x78 x79 x80 x81 x82 x83 x84 x85 x86 x87 x88 x89 x90 x91 x92 x93 x94 x95 x96 x97 x98 x99 x100 x101 x102 x103 x104 x105 x106 x107 x108 x109 x110 x111 x112 x113 x114 x115 x116 x117 x118 x119 x120 x121 x122 x123 x124 x125 x126 x127 x128 x129 x130 x131 x132 x133 x134 x135 x136 x137 x138 x139 x140 x141 x142 x143 x144 x145 x146 x147 x148 x149 x150 x151 x152 x153 x154 x155 x156 x157 x158 x159 x160 x161 x162 x163 x164 x165 x166 x167 x168 x169 x170 x171 x172 x173 x174 x175 x176 x177 x178 x179 x180 x181 x182 x183 x184 x185 x186 x187 x188 x189 x190 x191 x192 x193 x194 x195 x196 x197 x198 x199 x200 x201 x202 x203 x204 x205 x206 x207 x208 x209 x210 x211 x212 x213 x214 x215 x216 x217 x218 x219 x220 x221 x222 x223 x224 x225 x226 x227 x228 x229 x230 x231 x232 x233 x234 x235 x236 x237 x238 x239 x240 x241 x242 x243 x244 x245 x246 x247 x248 x249 x250 x251 x252 x253 x254 x255 x256 x257 x258 x259 x260 x261 x262 x263 x264 x265 x266 x267 x268 x269 x270 x271 x272 x273 x274 x275 x276 x277 x278 w5 hE5
                have HE5 := hide hE5
                clear hE5 HE
                as_aux_lemma =>
                  have hst : bytes8 (fold H0 PM nb) = sha M := by
                    as_aux_lemma =>
                      have h1 := HPl.out
                      unfold sha st
                      rw [← HPM.out, ← h1, show 64 * nb / 64 = nb by omega]
                  have hok := fold_ok H0_ok PM nb
                  obtain ⟨s, hs⟩ : ∃ s, s = fold H0 PM nb := ⟨_, rfl⟩
                  rw [← hs] at hst hok HE5
                  have Hst := hide hst
                  clear hst hs
                  have hb6 := below_new w5 (.cells (u8s (zeros 32)) 61)
                  have HE6 := hide (HE5.out.up hb6)
                  have HO6 := hide (heap_last w5 (.cells (u8s (zeros 32)) 61))
                  obtain ⟨lK5, lH5, lg5, lr5⟩ := HE5.out.lts
                  clear hb6 HE5
                  as_aux_lemma =>
                    go_wp2_with (refine wpList_store_whole rfl 61 (.tmp 23) (.tmp 279) rfl w5.heap.size (zeros 32) (zeros 32) 61 rfl (by rw [← zlit8]; rfl) ?_ rfl (by rw [infoS, zeros_length]) ?_; rw [zlit8]; exact HO6.out)
                    intro w6 HO7 HG6
                    refine of_hid ?_
                    rw [zlit8] at HG6
                    have HE7 := hide (HE6.out.grown HG6.out (by omega) (by omega) (by omega) (by omega))
                    clear HE6 HO6 HG6
                    as_aux_lemma =>
                      generalize w5.heap.size = OB at *
                      have HO6 := HO7
                      have HE6 := HE7
                      clear HO7 HE7
                      go_wp2_with fail
                      as_aux_lemma =>
                        refine Sz9.loop9 _ _ _ _ _ _ _ _ _ _ _ _ _ _ _ _ _ _ _ _ _ _ _ _ _ _ _ _ _ _ _ _ _ _ _ _ _ _ _ _ _ _ _ _ _ _ _ _ _ _ _ _ _ _ _ _ _ _ _ _ _ _ _ _ _ _ _ _ _ _ _ _ _ _ _ _ _ _ _ _ _ _ _ _ _ _ _ _ _ _ _ _ _ _ _ _ _ _ _ _ _ _ _ _ _ _ _ _ _ _ _ _ _ _ _ _ _ _ _ _ _ _ _ _ _ _ _ _ _ _ _ _ _ _ _ _ _ _ _ _ _ _ _ _ _ _ _ _ _ _ _ _ _ _ _ _ _ _ _ _ _ _ _ _ _ _ _ _ _ _ _ _ _ _ _ _ _ _ _ _ _ _ _ _ _ _ _ _ _ _ _ _ _ _ _ _ _ _ _ _ _ _ _ _ _ _ _ _ _ _ _ _ _ _ _ _ _ _ _ _ _ _ _ _ _ _ _ _ _ _ _ _ _ _ _ _ _ _ _ _ _ _ _ _ _ _ _ _ _ _ _ _ _ _ _ _ _ _ _ _ _ _ _ _ _ _ _ _ _ _ _ _ _ _ _ _ _ _ _ _ _ _ _ _ _ _ _ _ _ _ _ _ _ _ _ _ w6 HB OB s _ HE6.out.hs (by rw [oRow_zero]; exact HO6.out) (by omega) hok ?_
                        rintro y24 y280 y281 y282 y283 y284 y285 y286 y287 y288 y289 y290 y291 y292 y293 y294 y295 y296 y297 w7 ⟨hO7, hG7⟩
                        have HO7 := hide hO7
                        have HR7 := hide (keepG hG7 (by omega) HE6.out.res)
                        have HB7 := hide (belowG HE6.out.below hG7 (by omega) HE6.out.below.size)
                        have HXl : Hid ((bytes8 s).length = 32) := hide (bytes8_length s)
                        clear hO7 hG7 HE6 HO6
                        obtain ⟨X, hX⟩ : ∃ X, X = bytes8 s := ⟨_, rfl⟩
                        rw [← hX] at HO7 HXl Hst
                        clear hX
                        go_wp2_with (first
                          | (refine wpList_load_whole rfl 61 (.tmp 23) rfl OB X 61 (0, 0) rfl HO7.out _ Tryd.underlying61 rfl (by rw [infoS, HXl.out]) ?_)
                          | (refine wpList_store_whole rfl 61 (.tmp 2) (.tmp 298) rfl w.heap.size X (zeros 32) 61 rfl rfl HR7.out HXl.out (by rw [infoS, HXl.out]) ?_))
                        intro w8 HR8 HG8
                        refine of_hid ?_
                        have HB8 := hide (belowG HB7.out HG8.out (Nat.le_refl _) HB7.out.size)
                        go_wp2_with fail
                        exact ret_whole Tryd.results81 w.heap.size X 61 (0, 0) rfl HR8.out _ Tryd.underlying61 rfl (by rw [infoS, HXl.out]) rfl ⟨by rw [Hst.out], HB8.out⟩
end Go.Proofs.YtheambpddpfcfaaDoor.Srf
/- The reference's Cut. -/
namespace Go.Proofs.YtheambpddpfcfaaDoor.Sct
set_option linter.unusedVariables false
set_option linter.unusedSimpArgs false
set_option maxRecDepth 100000
open Go.ChangeShapes Go.WideShapes Go.ChangeAt Go.RowKit
open Go.Proofs.YtheambpddpfcfaaDoor.Wu Go.Proofs.YtheambpddpfcfaaDoor.Sm Go.Proofs.YtheambpddpfcfaaDoor.Sk Go.Proofs.YtheambpddpfcfaaDoor.Sc Go.Proofs.YtheambpddpfcfaaDoor.Sxa Go.Proofs.YtheambpddpfcfaaDoor.Sh Go.Proofs.YtheambpddpfcfaaDoor.Sn Go.Proofs.YtheambpddpfcfaaDoor.Sw0 Go.Proofs.YtheambpddpfcfaaDoor.Sx Go.Proofs.YtheambpddpfcfaaDoor.Sw Go.Proofs.YtheambpddpfcfaaDoor.Sb Go.Proofs.YtheambpddpfcfaaDoor.Sf Go.Proofs.YtheambpddpfcfaaDoor.So Go.Proofs.YtheambpddpfcfaaDoor.Su Go.Proofs.YtheambpddpfcfaaDoor.Sv Go.Proofs.YtheambpddpfcfaaDoor.Ap Go.Proofs.YtheambpddpfcfaaDoor.Sr Go.Proofs.YtheambpddpfcfaaDoor.Srf0 Go.Proofs.YtheambpddpfcfaaDoor.Srf1 Go.Proofs.YtheambpddpfcfaaDoor.Rk Go.Proofs.YtheambpddpfcfaaDoor.Sza Go.Proofs.YtheambpddpfcfaaDoor.Szb Go.Proofs.YtheambpddpfcfaaDoor.Srf Go.Proofs.YtheambpddpfcfaaDoor.St
attribute [local go_sem] kUpon_value kUpon_skip kUpon_enter

/-- The row when the bytes from k up to i are noughts. -/
def cutR (k i : Nat) (X : List Nat) : List Nat := X.take k ++ zeros (min i 32 - k) ++ X.drop i
theorem cutR_length (k i : Nat) (X : List Nat) (hX : X.length = 32) (hk : k ≤ 32) (hi : k ≤ i) : (cutR k i X).length = 32 := by
  simp [cutR, zeros, hX]; omega
theorem cutR_start (k i : Nat) (X : List Nat) (hX : X.length = 32) (h : (i ≤ 32 ∧ k = i) ∨ (32 < i ∧ k = 32)) : cutR k i X = X := by
  unfold cutR
  rcases h with ⟨h1, rfl⟩ | ⟨h1, rfl⟩
  · rw [show min k 32 - k = 0 by omega]; simp [zeros]
  · rw [show min i 32 - 32 = 0 by omega, List.take_of_length_le (by omega), List.drop_eq_nil_of_le (by omega)]; simp [zeros]
theorem cutR_end (k i : Nat) (X : List Nat) (hX : X.length = 32) (hk : k ≤ 32) (hi : 32 ≤ i) : cutR k i X = cutL k X := by
  unfold cutR cutL
  rw [show min i 32 = 32 by omega, List.drop_eq_nil_of_le (by omega), List.append_nil]
theorem cutR_step (k i : Nat) (X : List Nat) (hX : X.length = 32) (hk : k ≤ i) (hi : i < 32) : (cutR k i X).set i 0 = cutR k (i + 1) X := by
  unfold cutR
  have hl : (X.take k ++ zeros (min i 32 - k)).length = i := by simp [zeros, hX]; omega
  rw [List.set_append_right _ _ (by omega), hl, Nat.sub_self, List.drop_eq_getElem_cons (by omega), List.set_cons_zero, show min (i + 1) 32 - k = (min i 32 - k) + 1 by omega]
  have hz : zeros (min i 32 - k + 1) = zeros (min i 32 - k) ++ [0] := by unfold zeros; exact List.replicate_succ'
  rw [hz]
  simp
set_option maxHeartbeats 3200000 in
theorem refCut_c (n : Int) (k : Nat) (M : List Nat) (w : World) (hk : Cnt n k) (h8 : All8 M) (hbig : M.length ≤ 1000000) (hn : n ≤ 9223372036854775807) :
    Calls Tryd.prog 56 #[.int .i64 n, .string (strN M)] w fun e w' => e = .returned (.agg (u8s (cutL k (sha M)))) ∧ Below w.heap.size w w' := by
  have HR0 := hide (heap_last w (.cells (u8s (zeros 32)) 61))
  have HB0 := hide (below_new w (.cells (u8s (zeros 32)) 61))
  have hk32 : k ≤ 32 := by unfold Cnt at hk; omega
  have hc : (n < 0 ∧ k = 0) ∨ (¬ n < 0 ∧ ∃ j : Nat, n = (j : Int) ∧ ((j ≤ 32 ∧ k = j) ∨ (32 < j ∧ k = 32))) := by
    unfold Cnt at hk
    by_cases h : n < 0
    · left; omega
    · right; exact ⟨h, n.toNat, by omega, by omega⟩
  clear hk
  go_enter Tryd.func56, Tryd.ntmps56
  go_wp2_with fail
  rw [zlit8]
  generalize (w.alloc (.cells (u8s (zeros 32)) 61)) = w0 at *
  refine (refOf_c M w0 h8 hbig).mono ?_
  rintro e w1 ⟨rfl, hb1⟩
  obtain ⟨X, hX⟩ : ∃ X, X = sha M := ⟨_, rfl⟩
  have hXl : X.length = 32 := by rw [hX]; rfl
  have HX := hide hX
  rw [← hX]
  clear hX
  have HXl := hide hXl
  clear hXl
  have HR1 := hide (below_blk hb1 (heap_lt HR0.out) HR0.out)
  have HB1 := hide (keepB hb1 (Nat.le_refl _) HB0.out)
  have hz1 := heap_lt HR1.out
  clear hb1 HB0 HR0
  have Hz := hide (heap_last w1 (.cells (u8s (zeros 32)) 61))
  have Hzr := hide (heap_old HR1.out (.cells (u8s (zeros 32)) 61))
  have Hzb := hide (HB1.out.alloc HB1.out.size (.cells (u8s (zeros 32)) 61))
  go_wp2_with (refine wpList_store_whole rfl 61 (.tmp 5) (.tmp 9) rfl w1.heap.size X (zeros 32) 61 rfl rfl ?_ (by rw [HXl.out, zeros_length]) (by rw [infoS, HXl.out]) ?_; rw [zlit8]; exact Hz.out)
  rw [zlit8]
  intro w2 HW2 HG2
  have HR2 := hide (keepG HG2.out (by omega) Hzr.out)
  have HB2 := hide (belowG Hzb.out HG2.out (by omega) Hzb.out.size)
  refine of_hid ?_
  clear Hz Hzr Hzb HR1 HB1 HG2
  have hw2 := HB2.out.size
  generalize w1.heap.size = WB at *
  obtain ⟨j0, hj0, hst⟩ : ∃ j : Nat, ((n < 0 ∧ j = 0) ∨ (¬ n < 0 ∧ n = (j : Int))) ∧ ((j ≤ 32 ∧ k = j) ∨ (32 < j ∧ k = 32)) := by
    rcases hc with ⟨h1, h2⟩ | ⟨h1, j, h2, h3⟩
    · exact ⟨0, .inl ⟨h1, rfl⟩, .inl ⟨by omega, h2⟩⟩
    · exact ⟨j, .inr ⟨by omega, h2⟩, h3⟩
  have Hst := hide (cutR_start k j0 X HXl.out hst)
  have hkj : k ≤ j0 := by omega
  have hjb : j0 ≤ 9223372036854775807 := by omega
  clear hc hst
  rw [← Hst.out] at HW2
  rcases hj0 with ⟨hneg, rfl⟩ | ⟨hneg, rfl⟩
  all_goals
    go_wp2_with fail
    go_loopw [7] (fun i wr => ∃ q : Nat, k ≤ q ∧ q ≤ 9223372036854775807 ∧ i = .int .i64 (q : Int) ∧ wr.heap[WB]? = some (.cells (u8s (cutR k q X)) 61 (0, 0)) ∧ wr.heap[w.heap.size]? = some (.cells (u8s (zeros 32)) 61 (0, 0)) ∧ Below w.heap.size w wr) (fun i _ => 32 - (intOf i).toNat)
    case atStart => exact ⟨_, hkj, hjb, rfl, HW2.out, HR2.out, HB2.out⟩
    case round =>
      clear HW2 HR2 HB2 hkj hjb
      obtain ⟨q, hq, hqb, rfl, h1, h2, hb⟩ := hrel
      have H1 := hide h1
      have H2 := hide h2
      have HB := hide hb
      clear h1 h2 hb
      by_cases hlk : q < 32
      · have Hst := hide (cutR_step k q X HXl.out hq hlk)
        have cx := row8 (i := q) H1.out (by rw [cutR_length k q X HXl.out hk32 hq]; exact hlk)
        have fx := blk_free (i := q) H1.out
        generalize (cutR k q X).getD q 0 = old at *
        have hd : decide ((q : Int) < 32) = true := by simp; omega
        have k0 : (0 : Int) ≤ (q : Int) := by omega
        have k1 : (q : Int) < 32 := by omega
        go_wp2
        go_roundw
        case rel =>
          have e := blk_set (i := q) H1.out (.int .u8 ((0 : Nat) : Int))
          rw [u8s_set, Hst.out] at e
          exact ⟨q + 1, by omega, by omega, by go_num, e, blk_set_other H2.out (by omega) _, HB.out.setCell (by simp; omega) _⟩
        case measure => simp [intOf]; omega
      · have h1 := H1.out
        rw [cutR_end k q X HXl.out hk32 (by omega)] at h1
        have H3 := hide h1
        have Hl : Hid ((cutL k X).length = 32) := hide (cutL_length k X hk32 HXl.out)
        clear h1 H1
        have hd : decide ((q : Int) < 32) = false := by simp; omega
        go_wp2_with (first
          | (refine wpList_load_whole rfl 61 (.tmp 5) rfl WB (cutL k X) 61 (0, 0) rfl H3.out _ Tryd.underlying61 rfl (by rw [infoS, Hl.out]) ?_)
          | (refine wpList_store_whole rfl 61 (.tmp 4) (.tmp 20) rfl w.heap.size (cutL k X) (zeros 32) 61 rfl rfl H2.out Hl.out (by rw [infoS, Hl.out]) ?_))
        intro w5 H5 HG5
        have HB5 := hide (belowG HB.out HG5.out (by omega) HB.out.size)
        refine of_hid ?_
        go_wp2_with fail
        exact ret_whole Tryd.results56 w.heap.size (cutL k X) 61 (0, 0) rfl H5.out _ Tryd.underlying61 rfl (by rw [infoS, Hl.out]) rfl ⟨by rw [HX.out], HB5.out⟩
end Go.Proofs.YtheambpddpfcfaaDoor.Sct
/- The reference's weak sum of a text. -/
namespace Go.Proofs.YtheambpddpfcfaaDoor.Wv
set_option linter.unusedVariables false
set_option linter.unusedSimpArgs false
set_option maxRecDepth 100000
open Go.ChangeShapes Go.WideShapes Go.ChangeAt Go.RowKit
open Go.Proofs.YtheambpddpfcfaaDoor.Wm Go.Proofs.YtheambpddpfcfaaDoor.Wu

theorem w64 (x : Int) (h : -9223372036854775808 ≤ x) (h' : x ≤ 9223372036854775807) : wrap64 x = x := by
  unfold wrap64
  omega
theorem step_b (b d c : Int) (h1 : 0 ≤ b) (h2 : b ≤ 4278190080) (h3 : 0 ≤ c) (h4 : c < 256) (h5 : 0 ≤ d) (h6 : d ≤ 4096) : wrap64 (b + wrap64 (d * c)) = b + d * c := by
  have h7 : 0 ≤ d * c := Int.mul_nonneg h5 h3
  have h8 : d * c ≤ 4096 * c := Int.mul_le_mul_of_nonneg_right h6 h3
  rw [w64 (d * c) (by omega) (by omega), w64 _ (by omega) (by omega)]

theorem ref_any (s : ByteArray) (w : World) (hs : s.size ≤ 4096) :
    Calls Tryd.prog 26 #[.string s] w fun e w' => e = .returned (.int .i64 (hi (nums s) * 65536 + lo (nums s))) ∧ w = w' := by
  have HB := hide (byt_nums s)
  have HL := hide (nums_length s)
  go_enter Tryd.func26, Tryd.ntmps26
  go_wp2_with fail
  go_loop [3, 4, 5] (fun a b i => ∃ k : Nat, k ≤ s.size ∧ i = .int .i64 k ∧ a = .int .i64 (sm ((nums s).take k)) ∧ b = .int .i64 (pw s.size ((nums s).take k))) (fun _ _ i => s.size - (intOf i).toNat)
  case atStart => exact ⟨0, Nat.zero_le _, rfl, rfl, rfl⟩
  case round =>
    obtain ⟨k, hk, rfl, rfl, rfl⟩ := hrel
    have h1 := sm_bd (byt_take HB.out k)
    have h2 := pw_bd4 (byt_take HB.out k) (s.size : Int) (by rw [List.length_take, HL.out]; omega) (by omega)
    have h3 : ((nums s).take k).length ≤ k := List.length_take_le _ _
    by_cases hlt : k < s.size
    · have h4 := byt_getD HB.out k
      have H5 := hide (nums_getD s k hlt)
      have H6 := hide (pw_take (nums s) (s.size : Int) k (by rw [HL.out]; exact hlt))
      have H7 := hide (sm_take (nums s) k (by rw [HL.out]; exact hlt))
      have h5 := h4
      rw [H5.out] at h5
      go_wp2
      go_round
      case rel =>
        refine ⟨k + 1, by omega, by go_num, ?_, ?_⟩
        · rw [H7.out, H5.out]
        · rw [step_b _ ((s.size : Int) - k) _ h2.1 h2.2 h5.1 h5.2 (by omega) (by omega), H6.out, H5.out]
      case measure => simp [intOf]; omega
    · have hkl : k = s.size := by omega
      subst hkl
      have H8 := hide (List.take_of_length_le (l := nums s) (i := s.size) (by rw [HL.out]; omega))
      go_wp2
      go_ret
      refine ⟨?_, rfl⟩
      show Ending.returned (.int .i64 (pw (s.size : Int) (List.take s.size (nums s)) % 65536 * 65536 + sm (List.take s.size (nums s)) % 65536)) = _
      rw [H8.out]
      unfold hi lo
      rw [HL.out]
theorem ref_nums (L : List Int) (w : World) (hL : Byt L) (hs : L.length ≤ 4096) :
    Calls Tryd.prog 26 #[.string (strOfNums L)] w fun e w' => e = .returned (.int .i64 (hi L * 65536 + lo L)) ∧ w = w' := by
  have h := ref_any (strOfNums L) w (by rw [strOfNums_size]; exact hs)
  rw [nums_strOfNums hL] at h
  exact h
theorem conv_none (P : Program) (a : Option Addr) (cap : Nat) (u : World) (src dst e : TypeId) (hs : P.underlying src = some (.slice e)) (he : P.underlying e = some (.int .u8)) (hd : P.underlying dst = some .string) :
    Sem.run P (convert src dst (.slice a 0 cap)) u = .ok (.string (strOfNums [])) u := by
  rw [run_convert_bytes_string u src dst e a 0 cap hs he hd]
  cases a with
  | none => simp [Conv.bytesToString]; rfl
  | some x => exact run_bytesToString u x 0 cap [] (by simp [loadCells]; rfl)
end Go.Proofs.YtheambpddpfcfaaDoor.Wv
/- A buffer of the call's own, nil at first: append to it. -/
namespace Go.Proofs.YtheambpddpfcfaaDoor.Bq
set_option linter.unusedVariables false
set_option linter.unusedSimpArgs false
set_option maxRecDepth 100000
open Go.RowKit
open Go.Proofs.YtheambpddpfcfaaDoor.Wu Go.Proofs.YtheambpddpfcfaaDoor.Sm Go.Proofs.YtheambpddpfcfaaDoor.Sh Go.Proofs.YtheambpddpfcfaaDoor.Ba Go.Proofs.YtheambpddpfcfaaDoor.Bp

/-- The slice v has the bytes L: nil, or a row in a block that isn't below N. -/
def Buf (w : World) (v : Value) (N : Nat) (L : List Nat) : Prop :=
  (v = .slice none 0 0 ∧ L = []) ∨ ∃ g cap, v = .slice (some ⟨g, 0, none⟩) L.length cap ∧ N ≤ g ∧ Dst w g L.length cap L
theorem Buf.all {w : World} {v : Value} {N : Nat} {L : List Nat} (h : Buf w v N L) : All8 L := by
  rcases h with ⟨_, rfl⟩ | ⟨g, cap, _, _, hd⟩
  · exact all8_nil
  · exact hd.all
theorem Buf.up {w w' : World} {v : Value} {N : Nat} {L : List Nat} (h : Buf w v N L) (hb : Below w.heap.size w w') : Buf w' v N L := by
  rcases h with h | ⟨g, cap, h1, h2, hd⟩
  · exact .inl h
  · exact .inr ⟨g, cap, h1, h2, hd.below hb hd.lt⟩
theorem Buf.form {w : World} {v : Value} {N : Nat} {L : List Nat} (h : Buf w v N L) : ∃ a cap, v = .slice a L.length cap ∧ SrcB w a L.length L ∧ L.length ≤ cap ∧ cap ≤ maxLen ∧ (a = none → L.length = 0 ∧ cap = 0) := by
  rcases h with ⟨rfl, rfl⟩ | ⟨g, cap, rfl, _, hd⟩
  · exact ⟨none, 0, rfl, SrcB.nil w none, Nat.le_refl _, Nat.zero_le _, fun _ => ⟨rfl, rfl⟩⟩
  · exact ⟨some ⟨g, 0, none⟩, cap, rfl, hd.src, hd.fit, hd.max, fun h => by cases h⟩
theorem append_nil_dst (w : World) (ty : TypeId) (ad : Addr) (m c : Nat) (L' : List Nat) (hm : 0 < m) (hs : SrcB w (some ad) m L') (hbig : m ≤ 70368744177664) :
    ∃ cap' w', (Builtin.append_ #[22, 22] ty #[.slice none 0 0, .slice (some ad) m c]).run Tryd.prog w = .ok (.slice (some ⟨w.heap.size, 0, none⟩) m cap') w' ∧ Dst w' w.heap.size m cap' L' ∧ Below w.heap.size w w' := by
  obtain ⟨i0, hi0, hz0, hz1, hz2⟩ := info_parts info_bs
  obtain ⟨hl, h8, b, off, ha, hcell⟩ := hs
  have hnews : ∀ j u, (b8 L')[j]? = some u → w.cell? (ad.add j) = some u := by
    intro j u hu
    obtain ⟨hj, rfl⟩ := b8_at hu
    have := ha hm
    injection this with this
    subst this
    rw [Addr.add_mid]
    exact hcell j (by omega)
  have hr := run_append_nil (P := Tryd.prog) w 22 ty 5 i0 (.int .u8 0) Tryd.underlying22 hi0 hz0 ad m c (b8 L') (by rw [b8_length, hl, hz1, Nat.mul_one]) hnews hm (by omega) (by rw [hz2]; omega)
  have hge := grownCap_ge w m 0 5
  have hle := grownCap_le_maxLen w m 0 5 (by unfold maxLen; omega)
  generalize grownCap w m 0 5 = q at hr hge hle
  have hzs : (Builtin.zeroCells (Value.int .u8 0).cells (q - m)).size = q - m := by rw [size_zeroCells]; simp [Value.cells]
  generalize Builtin.zeroCells (Value.int .u8 0).cells (q - m) = Z at hr hzs
  have hn := dst_new w.drew L' Z 5 (0, 0) rfl h8 (by rw [hl, hzs]; omega)
  rw [hl, hzs, show m + (q - m) = q by omega] at hn
  exact ⟨q, _, hr, hn, (Below.refl _ _).drew.alloc (Nat.le_refl _) _⟩
theorem append_buf (w : World) (ty : TypeId) (v : Value) (N : Nat) (L : List Nat) (A : Option Addr) (m c : Nat) (L' : List Nat) (hb : Buf w v N L) (hN : N ≤ w.heap.size) (hs : SrcB w A m L') (hc : A = none → m = 0) (hbig : L.length + m ≤ 70368744177664) (hm : 0 < m) :
    ∃ v' w', (Builtin.append_ #[22, 22] ty #[v, .slice A m c]).run Tryd.prog w = .ok v' w' ∧ Buf w' v' N (L ++ L') ∧ Below N w w' := by
  have hl := hs.1
  rcases hb with ⟨rfl, rfl⟩ | ⟨g, cap, rfl, hg, hd⟩
  · cases A with
    | none => have := hc rfl; omega
    | some ad =>
      obtain ⟨cap', w', hr, hd, hb⟩ := append_nil_dst w ty ad m c L' hm hs (by simpa using hbig)
      refine ⟨_, _, hr, .inr ⟨w.heap.size, cap', ?_, hN, ?_⟩, hb.mono hN⟩
      · rw [List.nil_append, hl]
      · rw [List.nil_append, hl]; exact hd
  · obtain ⟨g', cap', w', hr, hd', hG, hgg, -⟩ := append_dst w ty g L.length cap L A m c L' hd hs hbig hc
    refine ⟨_, _, hr, .inr ⟨g', cap', ?_, ?_, ?_⟩, ?_⟩
    · rw [List.length_append, hl]
    · rcases hgg with rfl | rfl <;> omega
    · rw [List.length_append, hl]; exact hd'
    · exact ⟨hG.os, hG.tape, hG.output, hG.size, fun k hk => hG.block k (by omega) (fun e => by injection e with e; omega)⟩
/-- append as a step of the walk. -/
theorem wpList_append_buf {w : World} {ops : Array Oper} {rest : List Oper} {o : Oper} {a : Act} {Q : Exit → Act → World → Prop} (hgd : o.guard = none) (s x : Operand)
    (ho : o.op = .call { callee := .builtin .append, args := #[s, x], argTypes := #[22, 22] }) (v : Value) (N : Nat) (L : List Nat) (A : Option Addr) (m c : Nat) (L' : List Nat)
    (hs : a.eval s = v) (hx : a.eval x = .slice A m c) (hb : Buf w v N L) (hN : N ≤ w.heap.size) (hsrc : SrcB w A m L') (hc : A = none → m = 0) (hbig : L.length + m ≤ 70368744177664) (hm : 0 < m)
    (h : ∀ v' w', Hid (Buf w' v' N (L ++ L')) → Hid (Below N w w') → Hid (wpList Tryd.prog ops Q rest (a.put o.dst v') w')) : wpList Tryd.prog ops Q (o :: rest) a w := by
  obtain ⟨v', w', hrun, h1, h2⟩ := append_buf w o.type v N L A m c L' hb hN hsrc hc hbig hm
  refine wpList_plain hgd fun K hK => ?_
  unfold Oper.wp
  simp [execOp, ho, resolve, invoke, builtin, hs, hx, hrun, Result.andThen]
  exact hK _ _ (h v' w' h1 h2)
theorem src_one {w : World} {B : Nat} {x : Nat} {T : TypeId} {f : Nat × Nat} (h : w.heap[B]? = some (.cells #[.int .u8 (x : Int)] T f)) (hx : x < 256) : SrcB w (some ⟨B, 0, none⟩) 1 [x] :=
  ⟨rfl, by intro z hz; simp only [List.mem_singleton] at hz; omega, B, 0, fun _ => rfl, fun i hi => by
    obtain rfl : i = 0 := by omega
    exact blk_cell h rfl⟩
end Go.Proofs.YtheambpddpfcfaaDoor.Bq
/- Texts of bytes; a slice of bytes as a text. -/
namespace Go.Proofs.YtheambpddpfcfaaDoor.Bs
set_option linter.unusedVariables false
set_option linter.unusedSimpArgs false
set_option maxRecDepth 100000
open Go.RowKit
open Go.Proofs.YtheambpddpfcfaaDoor.Wu Go.Proofs.YtheambpddpfcfaaDoor.Sm Go.Proofs.YtheambpddpfcfaaDoor.Sh Go.Proofs.YtheambpddpfcfaaDoor.Ba Go.Proofs.YtheambpddpfcfaaDoor.Bp Go.Proofs.YtheambpddpfcfaaDoor.Bq
def strN (L : List Nat) : ByteArray := strOfNums (L.map fun x : Nat => (x : Int))
theorem strN_size (A : List Nat) : (strN A).size = A.length := by unfold strN; rw [strOfNums_size]; simp
theorem conv_row {w : World} {B off n cap : Nat} {L : List Nat} (hl : L.length = n) (hc : ∀ i, i < n → w.cell? ⟨B, off + i, none⟩ = some (.int .u8 ((L.getD i 0 : Nat) : Int))) :
    Sem.run Tryd.prog (convert 22 9 (.slice (some ⟨B, off, none⟩) n cap)) w = .ok (.string (strN L)) w :=
  run_convert_bytes_arg w 22 5 Tryd.underlying22 Tryd.underlying5 B off n cap (L.map fun x : Nat => (x : Int)) (by simp [hl]) (fun i hi => by
    rw [hc i hi]; simp [List.getD, List.getElem?_eq_getElem (show i < L.length by omega)]) 9 Tryd.underlying9
theorem conv_none (a : Option Addr) (cap : Nat) (u : World) : Sem.run Tryd.prog (convert 22 9 (.slice a 0 cap)) u = .ok (.string (strN [])) u := by
  rw [run_convert_bytes_string u 22 9 5 a 0 cap Tryd.underlying22 Tryd.underlying5 Tryd.underlying9]
  cases a with
  | none => simp [Conv.bytesToString]; rfl
  | some x => exact run_bytesToString u x 0 cap [] (by simp [loadCells]; rfl)
theorem conv_src {w : World} {a : Option Addr} {n cap : Nat} {L : List Nat} (h : SrcB w a n L) : Sem.run Tryd.prog (convert 22 9 (.slice a n cap)) w = .ok (.string (strN L)) w := by
  obtain ⟨hl, h8, b, off, ha, hc⟩ := h
  by_cases h0 : n = 0
  · subst h0
    obtain rfl : L = [] := List.length_eq_zero_iff.1 hl
    exact conv_none a cap w
  · obtain rfl := ha (by omega)
    exact conv_row hl hc
end Go.Proofs.YtheambpddpfcfaaDoor.Bs
/- The reference's Piece and Make (layer 6). -/
namespace Go.Proofs.YtheambpddpfcfaaDoor.Kq
set_option linter.unusedVariables false
set_option linter.unusedSimpArgs false
set_option maxRecDepth 100000
open Go.ChangeShapes Go.WideShapes Go.ChangeAt Go.RowKit
open Go.Proofs.YtheambpddpfcfaaDoor.Wu Go.Proofs.YtheambpddpfcfaaDoor.Sm Go.Proofs.YtheambpddpfcfaaDoor.Sh Go.Proofs.YtheambpddpfcfaaDoor.Ba Go.Proofs.YtheambpddpfcfaaDoor.Bp Go.Proofs.YtheambpddpfcfaaDoor.Bs Go.Proofs.YtheambpddpfcfaaDoor.Ka Go.Proofs.YtheambpddpfcfaaDoor.Kb Go.Proofs.YtheambpddpfcfaaDoor.Kc Go.Proofs.YtheambpddpfcfaaDoor.Kd Go.Proofs.YtheambpddpfcfaaDoor.Ke Go.Proofs.YtheambpddpfcfaaDoor.Kf Go.Proofs.YtheambpddpfcfaaDoor.Rk Go.Proofs.YtheambpddpfcfaaDoor.Rh Go.Proofs.YtheambpddpfcfaaDoor.Rw Go.Proofs.YtheambpddpfcfaaDoor.Rb1 Go.Proofs.YtheambpddpfcfaaDoor.Kg
open Go.Proofs.YtheambpddpfcfaaDoor.Su (cutL Cnt)
attribute [local go_sem] kUpon_value kUpon_skip kUpon_enter
theorem strN_mid (L : List Nat) (i n : Nat) : (strN L).extract i (i + n) = strN ((L.drop i).take n) := by
  unfold strN strOfNums
  apply ByteArray.ext
  simp [ByteArray.data_extract, List.map_take, List.map_drop, List.extract_eq_take_drop]
theorem slice_str (L : List Nat) (i n : Nat) (h : i + n ≤ L.length) (u : World) : Sem.run Tryd.prog (Instr.slice 9 (.string (strN L)) (some (.int .i64 (i : Int))) (some (.int .i64 ((i : Int) + (n : Int)))) none) u = .ok (.string (strN ((L.drop i).take n))) u := by
  rw [run_slice_string u 9 (strN L) .i64 .i64 _ _ Tryd.underlying9 (by omega) (by omega) (by rw [strN_size]; omega)]
  rw [← strN_mid]
  congr 2
theorem slice_from (L : List Nat) (i : Nat) (h : i ≤ L.length) (u : World) : Sem.run Tryd.prog (Instr.slice 9 (.string (strN L)) (some (.int .i64 (i : Int))) none none) u = .ok (.string (strN (L.drop i))) u := by
  have e1 : (strN L).extract i (strN L).size = strN (L.drop i) := by
    have := strN_mid L i (L.length - i)
    rw [List.take_of_length_le (by rw [List.length_drop]; exact Nat.le_refl _), show i + (L.length - i) = (strN L).size by rw [strN_size]; omega] at this
    exact this
  have h1 := run_slice_string_l (P := Tryd.prog) u 9 (strN L) Tryd.underlying9 .i64 (i : Int) (by omega) (by rw [strN_size]; omega)
  rw [h1, Int.toNat_natCast, e1]
theorem piece_c (D : List Nat) (s i : Nat) (w : World) (hD : D.length ≤ 16777216) (hs : s ≤ 4096) (hi : i * s ≤ D.length) :
    Calls Tryd.prog 55 #[.string (strN D), .int .i64 (s : Int), .int .i64 (i : Int)] w fun e w' => e = .returned (.string (strN (piece D s i))) ∧ w = w' := by
  obtain ⟨p, hp⟩ : ∃ p, p = i * s := ⟨_, rfl⟩
  have e0 : (i : Int) * (s : Int) = (p : Int) := by rw [hp]; simp
  have e1 : wrap64 ((i : Int) * (s : Int)) = (p : Int) := by rw [e0]; exact IntWalk.wrap64_in _ (by omega)
  have hpc : piece D s i = (D.drop p).take s := by rw [hp]; rfl
  rw [← hp] at hi
  rw [hpc]
  have hsz := strN_size D
  obtain ⟨l, hl⟩ : ∃ l, l = D.length := ⟨_, rfl⟩
  rw [← hl] at hsz hD hi
  clear hp hpc e0
  by_cases h : l - p < s
  · have hsl := slice_from D p (by omega)
    have ht : (D.drop p).take s = D.drop p := List.take_of_length_le (by rw [List.length_drop]; omega)
    rw [ht]
    have d1 : decide ((l : Int) - (p : Int) < (s : Int)) = true := by simp; omega
    generalize strN (D.drop p) = Y at *
    generalize strN D = X at *
    clear hl ht
    go_enter Tryd.func55, Tryd.ntmps55
    go_wp2
    go_ret
    exact ⟨rfl, rfl⟩
  · have hsl := slice_str D p s (by omega)
    have d1 : decide ((l : Int) - (p : Int) < (s : Int)) = false := by simp; omega
    generalize strN ((D.drop p).take s) = Y at *
    generalize strN D = X at *
    clear hl
    go_enter Tryd.func55, Tryd.ntmps55
    go_wp2
    go_ret
    exact ⟨rfl, rfl⟩
theorem refcut_b (n : Int) (k : Nat) (M : List Nat) (w : World) (hk : Cnt n k) (h8 : All8 M) (hbig : M.length ≤ 1000000) (hn : n ≤ 9223372036854775807) :
    Calls Tryd.prog 56 #[.int .i64 n, .string (strN M)] w fun e w' => e = .returned (.agg (u8s (cutL k (sha M)))) ∧ Below w.heap.size w w' := Sct.refCut_c n k M w hk h8 hbig hn
theorem refval_b (M : List Nat) (w : World) (h8 : All8 M) (hbig : M.length ≤ 4096) :
    Calls Tryd.prog 26 #[.string (strN M)] w fun e w' => e = .returned (.int .i64 ((wkN M : Nat) : Int)) ∧ w = w' := by
  have h := Wv.ref_nums (ints M) w (ints_byt h8) (by rw [ints_length]; exact hbig)
  rw [wkN_is]
  exact h
theorem load_ref {w : World} {S : Nat} {sz cut len : Int} {v : Value} (h : Sig4 32 w S sz cut len v) : Sem.run Tryd.prog (loadVar 32 ⟨S, 0, none⟩) w = .ok (sigV sz cut len v) w :=
  load_all 32 h _ Tryd.underlying32 rfl (by kernel_rfl)
set_option maxHeartbeats 3200000 in
theorem refmake_bad (D : List Nat) (sz cut : Int) (w : World) (hm : D.length ≤ 9223372036854775807) (hf : fitsE sz cut D.length ≠ 0) :
    Calls Tryd.prog 17 #[.string (strN D), .int .i64 sz, .int .i64 cut] w fun e w' => e = .returned (.tuple #[sigV 0 0 0 (.slice none 0 0), .int .i64 (fitsE sz cut D.length)]) ∧ Below w.heap.size w w' := by
  have hsz := strN_size D
  generalize strN D = X at *
  generalize D.length = l at *
  have HC := hide (fun u : World => refcount_c u (l : Int) sz (by omega))
  have HR := hide (heap_last w (.cells #[.int .i64 0, .int .i64 0, .int .i64 0, .slice none 0 0] 32))
  have HB := hide (below_new w (.cells #[.int .i64 0, .int .i64 0, .int .i64 0, .slice none 0 0] 32))
  obtain ⟨z, hz⟩ : ∃ z, z = fitsE sz cut l := ⟨_, rfl⟩
  rw [← hz] at hf ⊢
  have hcs : ((sz < 1 ∧ z = 1) ∨ (¬ sz < 1 ∧ 4096 < sz ∧ z = 1) ∨ (¬ sz < 1 ∧ ¬ 4096 < sz ∧ cut < 0 ∧ z = 1) ∨ (¬ sz < 1 ∧ ¬ 4096 < sz ∧ ¬ cut < 0 ∧ 32 < cut ∧ z = 1)) ∨ (¬ sz < 1 ∧ ¬ 4096 < sz ∧ ¬ cut < 0 ∧ ¬ 32 < cut ∧ 4096 < cntZ l sz ∧ z = 2) := by
    unfold fitsE at hz
    split at hz
    · omega
    · split at hz <;> omega
  clear hz hf
  generalize cntZ l sz = n at *
  rcases hcs with hcs | ⟨h1, h2, h3, h4, h5, rfl⟩
  rotate_left
  ·
    go_enter Tryd.func17, Tryd.ntmps17
    go_wp2_with fail
    generalize (w.alloc (.cells #[.int .i64 0, .int .i64 0, .int .i64 0, .slice none 0 0] 32)) = w1 at *
    refine (HC.out _).mono ?_
    rintro e w2 ⟨rfl, rfl⟩
    obtain ⟨r0, r1, r2, r3⟩ := sig_cells HR.out
    obtain ⟨f0, f1, f2, f3⟩ := sig_free HR.out
    go_wp2
    have e := sig_set HR.out (.int .i64 0) (.int .i64 0) (.int .i64 0) (.slice none 0 0)
    refine bodyPost_ret (v := .tuple #[sigV 0 0 0 (.slice none 0 0), .int .i64 2]) ?_ rfl ⟨rfl, below_set4 HB.out (Nat.le_refl _) _ _ _ _⟩
    have hl := load_ref e
    simp [results, Tryd.results17, asAddr, hl]
  rcases hcs with ⟨h1, rfl⟩ | ⟨h1, h2, rfl⟩ | ⟨h1, h2, h3, rfl⟩ | ⟨h1, h2, h3, h4, rfl⟩
  all_goals
    obtain ⟨r0, r1, r2, r3⟩ := sig_cells HR.out
    obtain ⟨f0, f1, f2, f3⟩ := sig_free HR.out
    go_enter Tryd.func17, Tryd.ntmps17
    go_wp2
    refine bodyPost_ret (v := .tuple #[sigV 0 0 0 (.slice none 0 0), .int .i64 1]) ?_ rfl ⟨rfl, HB.out⟩
    have hl := load_ref HR.out
    simp [results, Tryd.results17, asAddr, hl]
set_option maxHeartbeats 3200000 in
theorem refmake_ok (D : List Nat) (m s k n : Nat) (w : World) (hm0 : D.length = m) (h8 : All8 D) (hf : fitsE (s : Int) (k : Int) m = 0) (hn : cntZ m s = (n : Int)) :
    Calls Tryd.prog 17 #[.string (strN D), .int .i64 (s : Int), .int .i64 (k : Int)] w fun e w' => ∃ v, e = .returned (.tuple #[sigV s k m v, .int .i64 0]) ∧ OwnBks .i64 111 w' (w.heap.size + 2) v (mkB D s k n) ∧ Below w.heap.size w w' := by
  have hz := fitsE_zero hf
  have hm : m ≤ 16777216 := by omega
  have hs1 : 1 ≤ s := by omega
  have hs2 : s ≤ 4096 := by omega
  have hk : k ≤ 32 := by omega
  have hn4 : n ≤ 4096 := by omega
  have HN := hide (fun u : World => refcount_c u (m : Int) (s : Int) (by omega))
  rw [hn] at HN
  have HD := hide hm0
  have H8 := hide h8
  have Hn := hide hn
  have hsz : (strN D).size = m := by rw [strN_size]; exact hm0
  clear hf hz hn hm0 h8
  have HP := hide (fun (u : World) (i : Nat) (hi : i * s ≤ m) => piece_c D s i u (by rw [HD.out]; exact hm) hs2 (by rw [HD.out]; exact hi))
  obtain ⟨XD, hXD⟩ : ∃ XD, XD = strN D := ⟨_, rfl⟩
  rw [← hXD] at HP hsz ⊢
  clear hXD
  have HR0 := hide (heap_last w (.cells #[.int .i64 0, .int .i64 0, .int .i64 0, .slice none 0 0] 32))
  have HB0 := hide (below_new w (.cells #[.int .i64 0, .int .i64 0, .int .i64 0, .slice none 0 0] 32))
  have H0 : Hid (MB .i64 111 32 w w.heap.size (w.heap.size + 1) (w.heap.size + 2) (.cells #[.int .i64 0, .int .i64 0, .int .i64 0, .slice none 0 0] 32) s k m (.slice none 0 0) (.slice none 0 0) [] ((w.alloc (.cells #[.int .i64 0, .int .i64 0, .int .i64 0, .slice none 0 0] 32)).alloc (.cells #[.int .i64 (s : Int), .int .i64 (k : Int), .int .i64 (m : Int), .slice none 0 0] 32))) :=
    hide ⟨((Below.refl w.heap.size w).alloc (Nat.le_refl _) _).alloc (by simp) _, by omega, by omega, by omega, by omega, by simp, heap_2b w _ _, heap_2a w _ _, OwnBks.nil _ _ _ _⟩
  have d1 : decide ((s : Int) < 1) = false := by simp; omega
  have d1' : decide (s < 1) = false := by simp; omega
  have d2 : decide ((4096 : Int) < (s : Int)) = false := by simp; omega
  have d2' : decide (4096 < s) = false := by simp; omega
  have d3 : decide ((k : Int) < 0) = false := by simp
  have d4 : decide ((32 : Int) < (k : Int)) = false := by simp; omega
  have d4' : decide (32 < k) = false := by simp; omega
  have d5 : decide ((4096 : Int) < (n : Int)) = false := by simp; omega
  have d5' : decide (4096 < n) = false := by simp; omega
  go_enter Tryd.func17, Tryd.ntmps17
  go_wp2_with fail
  refine (HN.out _).mono ?_
  rintro e w2 ⟨rfl, rfl⟩
  clear HN
  go_wp2_with fail
  generalize ((w.alloc (.cells #[.int .i64 0, .int .i64 0, .int .i64 0, .slice none 0 0] 32)).alloc (.cells #[.int .i64 (s : Int), .int .i64 (k : Int), .int .i64 (m : Int), .slice none 0 0] 32)) = w1 at *
  go_loopw [10] (fun j wr => ∃ i v, j = .int .i64 ((i : Nat) : Int) ∧ i ≤ n ∧ MB .i64 111 32 w w.heap.size (w.heap.size + 1) (w.heap.size + 2) (.cells #[.int .i64 0, .int .i64 0, .int .i64 0, .slice none 0 0] 32) s k m v v (mkB D s k i) wr) (fun j _ => n - (intOf j).toNat)
  case atStart => exact ⟨0, _, rfl, Nat.zero_le _, H0.out⟩
  case round =>
    clear H0
    obtain ⟨i, v, rfl, hi, hM⟩ := hrel
    have HM := hide hM
    clear hM
    by_cases hlt : i < n
    · have him : (i : Int) * (s : Int) < (m : Int) := cnt_lt (by omega) (by omega) (by omega) (by rw [Hn.out]; omega)
      have e0 : (i : Int) * (s : Int) = ((i * s : Nat) : Int) := by simp
      rw [e0] at him
      have HPi := hide (HP.out wr i (by omega))
      have HL8 : Hid (All8 (piece D s i)) := hide (all8_take (all8_drop H8.out _) _)
      have HL4 : Hid ((piece D s i).length ≤ 4096) := hide (by unfold piece; rw [List.length_take]; omega)
      have Hmk := hide (mkB_snoc D s k i)
      have hbl : (mkB D s k i).length ≤ 1000000000 := by rw [mkB_length]; omega
      clear e0 him
      generalize piece D s i = L at *
      have hxok := blkOf_ok k hk L
      obtain ⟨x, hx⟩ : ∃ x, x = blkOf k L := ⟨_, rfl⟩
      rw [← hx] at hxok Hmk
      have Hxb : Hid (Tryd.prog.built 111 [(0, .int .i64 ((wkN L : Nat) : Int)), (1, .agg (u8s (cutL k (sha L))))] = some (blkC .i64 x).toArray) := hide (by rw [hx]; exact built_ref _ _ (Su.cutL_length k _ hk (sha_len L)))
      clear hx
      generalize mkB D s k i = bs at *
      have hCnt : Cnt (k : Int) k := by unfold Cnt; omega
      have hL8 := HL8.out
      have hL4 := HL4.out
      have d6 : decide ((i : Int) < (n : Int)) = true := by simpa using hlt
      go_wp2_with fail
      refine HPi.out.mono ?_
      rintro e w3 ⟨rfl, rfl⟩
      go_wp2_with fail
      refine wp_region_h (MT .i64 111 32 w w.heap.size (w.heap.size + 1) (w.heap.size + 2) (.cells #[.int .i64 0, .int .i64 0, .int .i64 0, .slice none 0 0] 32) s k m v bs x)
        [some (some (.pointer (some ⟨w.heap.size + 1, 3, none⟩))), some (some v), some (some (.string (strN L))), some (some (.int .i64 ((wkN L : Nat) : Int))), some (some (.int .i64 (k : Int))), some (some (.string (strN L))), some (some (.agg (u8s (cutL k (sha L))))), some (some (.agg (blkC .i64 x).toArray)), none, none, some (some (.pointer (some ⟨w.heap.size + 1, 3, none⟩))), none]
        [3, 1, 3, 3, 3, 3, 3, 3, 0, 0, 3, 0] (by kernel_rfl) (by kernel_rfl) [8, 9, 11] [8, 9, 11] rfl rfl (by kernel_rfl) (by kernel_rfl) HM.out.drew ?_
      refine gF_step (by rfl) (fun h u K hL hT hK => ?_) ?_
      · go_simp
        exact hK _ hT
      simp only [Act.put, List.setIfInBounds_toArray, List.set_cons_zero, List.set_cons_succ]
      refine gF_step (by rfl) (fun h u K hL hT hK => ?_) ?_
      · obtain ⟨r0, r1, r2, r3⟩ := (hT.sig hL).cells
        go_simp
        exact hK _ hT
      simp only [Act.put, List.setIfInBounds_toArray, List.set_cons_zero, List.set_cons_succ]
      refine gF_step (by rfl) (fun h u K hL hT hK => ?_) ?_
      · go_simp
        exact hK _ hT
      simp only [Act.put, List.setIfInBounds_toArray, List.set_cons_zero, List.set_cons_succ]
      refine gF_step (by rfl) (fun h u K hL hT hK => ?_) ?_
      · go_simp
        go_at_call 26
        (with_reducible refine Calls.mono (refval_b L u hL8 hL4) ?_)
        rintro e u2 ⟨rfl, rfl⟩
        exact hK _ hT
      simp only [Act.put, List.setIfInBounds_toArray, List.set_cons_zero, List.set_cons_succ]
      refine gF_step (by rfl) (fun h u K hL hT hK => ?_) ?_
      · go_simp
        exact hK _ hT
      simp only [Act.put, List.setIfInBounds_toArray, List.set_cons_zero, List.set_cons_succ]
      refine gF_step (by rfl) (fun h u K hL hT hK => ?_) ?_
      · go_simp
        exact hK _ hT
      simp only [Act.put, List.setIfInBounds_toArray, List.set_cons_zero, List.set_cons_succ]
      refine gF_step (by rfl) (fun h u K hL hT hK => ?_) ?_
      · go_simp
        go_at_call 56
        (with_reducible refine Calls.mono (refcut_b k k L u hCnt hL8 (by omega) (by omega)) ?_)
        rintro e u2 ⟨rfl, hu⟩
        exact hK _ (hT.up hu)
      simp only [Act.put, List.setIfInBounds_toArray, List.set_cons_zero, List.set_cons_succ]
      refine gF_step (by rfl) (fun h u K hL hT hK => ?_) ?_
      · exact kUpon_build_to 111 _ rfl [(0, .int .i64 ((wkN L : Nat) : Int)), (1, .agg (u8s (cutL k (sha L))))] rfl _ Hxb.out (hK _ hT)
      simp only [Act.put, List.setIfInBounds_toArray, List.set_cons_zero, List.set_cons_succ]
      refine gD_step (fun y => ∃ B, y = .slice (some ⟨B, 0, none⟩) 1 1) ⟨_, 0, rfl⟩ (by rfl) (fun u K hT hK => ?_) (fun y hy => ?_)
      · refine kUpon_slice_to 30 1 _ rfl [(0, blkV .i64 x)] rfl _ _ (one_ref u x hxok) (hK _ _ ⟨_, rfl⟩ ?_)
        exact ⟨MB.up hT (below_new _ _), _, rfl, _, _, heap_last _ _⟩
      obtain ⟨B, rfl⟩ := hy
      simp only [Act.put, List.setIfInBounds_toArray, List.set_cons_zero, List.set_cons_succ]
      refine gD_step (fun y => ∃ g n cap, y = .slice (some ⟨g, 0, none⟩) n cap) ⟨_, 0, 0, 0, rfl⟩ (by rfl) (fun u K hT hK => ?_) (fun y hy => ?_)
      · obtain ⟨hM, B', e, T', f', hB⟩ := hT
        simp only [Value.slice.injEq, Option.some.injEq, Addr.mk.injEq, and_true] at e
        subst e
        obtain ⟨v', u', hrun, ho, hg, -⟩ := append_bk .i64 30 111 _ 40 Tryd.underlying30 info_ref (by omega) (by kernel_rfl) u _ v _ bs B x T' f' 1 hM.own hM.Nu hxok hB hbl
        obtain ⟨g', n', cap', hv'⟩ := own_some ho (by simp)
        refine kUpon_append 30 (.tmp 49) (.tmp 56) rfl hrun (hK _ _ ⟨g', n', cap', hv'⟩ ?_)
        exact hM.append hg ho
      obtain ⟨g', n', cap', rfl⟩ := hy
      simp only [Act.put, List.setIfInBounds_toArray, List.set_cons_zero, List.set_cons_succ]
      refine gF_step (by rfl) (fun h u K hL hT hK => ?_) ?_
      · go_simp
        exact hK _ hT
      simp only [Act.put, List.setIfInBounds_toArray, List.set_cons_zero, List.set_cons_succ]
      refine gE_step (v := undef) (by rfl) (fun u K hT hK => ?_) ?_
      · have hM : MB .i64 111 32 w w.heap.size (w.heap.size + 1) (w.heap.size + 2) (.cells #[.int .i64 0, .int .i64 0, .int .i64 0, .slice none 0 0] 32) s k m v (.slice (some ⟨g', 0, none⟩) n' cap') (bs ++ [x]) u := hT
        obtain ⟨r0, r1, r2, r3⟩ := hM.sig.cells
        have f3 := hM.sig.free 3
        go_simp
        exact hK _ hM.store
      simp only [Act.put, List.setIfInBounds_toArray, List.set_cons_zero, List.set_cons_succ]
      refine g_nil (fun w4 hT4 => ?_)
      have HM4 : Hid (MB .i64 111 32 w w.heap.size (w.heap.size + 1) (w.heap.size + 2) (.cells #[.int .i64 0, .int .i64 0, .int .i64 0, .slice none 0 0] 32) s k m (.slice (some ⟨g', 0, none⟩) n' cap') (.slice (some ⟨g', 0, none⟩) n' cap') (bs ++ [x]) w4) := hide hT4
      rw [← Hmk.out] at HM4
      clear hT4 HM
      go_wp2
      go_roundw
      case rel => exact ⟨i + 1, _, by go_num, by omega, HM4.out⟩
      case measure => simp [intOf]; omega
    · obtain rfl : i = n := by omega
      obtain ⟨av, cv, rfl⟩ : ∃ av cv, v = .slice av (mkB D s k i).length cv := by
        obtain ⟨_, av, cv, h, _⟩ := HM.out.own.is
        exact ⟨av, cv, h⟩
      have d6 : decide ((i : Int) < (i : Int)) = false := by simp
      obtain ⟨r0, r1, r2, r3⟩ := HM.out.sig.cells
      obtain ⟨s0, s1, s2, s3⟩ := sig_cells HM.out.res
      obtain ⟨nv, hnv⟩ : ∃ nv, nv = (mkB D s k i).length := ⟨_, rfl⟩
      rw [← hnv] at HM r3
      clear hnv hi
      obtain ⟨f0, f1, f2, f3⟩ := sig_free HM.out.res
      have hneq : w.heap.size + 1 ≠ w.heap.size := by omega
      go_wp2
      have e := sig_set HM.out.res (.int .i64 (s : Int)) (.int .i64 (k : Int)) (.int .i64 (m : Int)) (.slice av nv cv)
      have hg := grown_setCell (grown_setCell (grown_setCell (grown_setCell (World.grownBy.refl wr (some w.heap.size)) 0 (.int .i64 (s : Int))) 1 (.int .i64 (k : Int))) 2 (.int .i64 (m : Int))) 3 (.slice av nv cv)
      have ho := HM.out.own.kept hg (fun e => by have := (HM.out.own.own _ e).1; omega)
      refine bodyPost_ret (v := .tuple #[sigV s k m (.slice av nv cv), .int .i64 0]) ?_ rfl ⟨.slice av nv cv, rfl, ho, below_set4 HM.out.below (Nat.le_refl _) _ _ _ _⟩
      have hl := load_ref e
      simp [results, Tryd.results17, asAddr, hl]
end Go.Proofs.YtheambpddpfcfaaDoor.Kq
/- law06's plain; the reference's Same. -/
namespace Go.Proofs.YtheambpddpfcfaaDoor.Kr
set_option linter.unusedVariables false
set_option linter.unusedSimpArgs false
set_option maxRecDepth 100000
open Go.ChangeShapes Go.WideShapes Go.ChangeAt Go.RowKit
open Go.Proofs.YtheambpddpfcfaaDoor.Wu Go.Proofs.YtheambpddpfcfaaDoor.Sm Go.Proofs.YtheambpddpfcfaaDoor.Sh Go.Proofs.YtheambpddpfcfaaDoor.Ba Go.Proofs.YtheambpddpfcfaaDoor.Bp Go.Proofs.YtheambpddpfcfaaDoor.Bs Go.Proofs.YtheambpddpfcfaaDoor.Ka Go.Proofs.YtheambpddpfcfaaDoor.Kb Go.Proofs.YtheambpddpfcfaaDoor.Kc Go.Proofs.YtheambpddpfcfaaDoor.Kd Go.Proofs.YtheambpddpfcfaaDoor.Ke Go.Proofs.YtheambpddpfcfaaDoor.Kf Go.Proofs.YtheambpddpfcfaaDoor.Rk Go.Proofs.YtheambpddpfcfaaDoor.Rh Go.Proofs.YtheambpddpfcfaaDoor.Rw Go.Proofs.YtheambpddpfcfaaDoor.Rb1 Go.Proofs.YtheambpddpfcfaaDoor.Kg Go.Proofs.YtheambpddpfcfaaDoor.Kq
attribute [local go_sem] kUpon_value kUpon_skip kUpon_enter
/-- A new block turned. -/
theorem _root_.Go.Proofs.YtheambpddpfcfaaDoor.Ke.MB.other {q : IntKind} {e T : TypeId} {w0 : World} {R S N : Nat} {rc : Obj} {sz cut len : Int} {v vo : Value} {bs : List Blk} {u u' : World} {k : Nat} (H : MB q e T w0 R S N rc sz cut len v vo bs u) (hg : u.grownBy u' (some k)) (hk : N ≤ k) (ho : ∀ g, vo.ownBlock = some g → g ≠ k) : MB q e T w0 R S N rc sz cut len v vo bs u' := by
  have h1 := H.hS
  have h2 := H.SN
  have h3 := H.RN
  exact ⟨belowG H.below hg (by omega) H.below.size, H.hS, H.SN, H.RN, H.RS, Nat.le_trans H.Nu hg.size, H.sig.kept hg (fun e => by injection e with e; omega), keepG hg (by omega) H.res, H.own.kept hg (fun e => ho _ e rfl)⟩
set_option maxHeartbeats 3200000 in
theorem plain_c (w : World) (sz cut len : Int) (a : Option Addr) (m c : Nat) (bs : List Blk) (hb : IsBks .u32 w (.slice a m c) bs) (hm : bs.length = m) (hbig : m ≤ 1000000) :
    Calls Tryd.prog 19 #[sigV sz cut len (.slice a m c)] w fun e w' => ∃ v, e = .returned (sigV sz cut len v) ∧ OwnBks .i64 111 w' (w.heap.size + 3) v bs ∧ Below w.heap.size w w' := by
  obtain ⟨a', c', g, off, hv, hmc, hcm, ha, hat⟩ := hb.at
  rw [hm] at hv hmc ha
  injection hv with h1 h2 h3
  subst h1 h3
  have Hat := hide hat
  have HM := hide hm
  clear hat h2 hb hm
  unfold sigV
  have H0 : Hid (MB .i64 111 32 w (w.heap.size + 1) (w.heap.size + 2) (w.heap.size + 3) (.cells #[.int .i64 0, .int .i64 0, .int .i64 0, .slice none 0 0] 32) sz cut len (.slice none 0 0) (.slice none 0 0) [] (((w.alloc (.cells #[.int .i64 sz, .int .i64 cut, .int .i64 len, .slice a m c] 26)).alloc (.cells #[.int .i64 0, .int .i64 0, .int .i64 0, .slice none 0 0] 32)).alloc (.cells #[.int .i64 sz, .int .i64 cut, .int .i64 len, .slice none 0 0] 32))) :=
    hide ⟨(((Below.refl w.heap.size w).alloc (Nat.le_refl _) _).alloc (by simp) _).alloc (by simp; omega) _, by omega, by omega, by omega, by omega, by simp, heap_3c w _ _ _, heap_old (heap_2b w _ _) _, OwnBks.nil _ _ _ _⟩
  go_enter Tryd.func19, Tryd.ntmps19
  go_wp2_with fail
  simp only [Nat.add_assoc, Nat.reduceAdd]
  generalize (((w.alloc (.cells #[.int .i64 sz, .int .i64 cut, .int .i64 len, .slice a m c] 26)).alloc (.cells #[.int .i64 0, .int .i64 0, .int .i64 0, .slice none 0 0] 32)).alloc (.cells #[.int .i64 sz, .int .i64 cut, .int .i64 len, .slice none 0 0] 32)) = w1 at *
  go_loopw [16] (fun j wr => ∃ i v, j = .int .i64 ((i : Nat) : Int) ∧ i ≤ m ∧ MB .i64 111 32 w (w.heap.size + 1) (w.heap.size + 2) (w.heap.size + 3) (.cells #[.int .i64 0, .int .i64 0, .int .i64 0, .slice none 0 0] 32) sz cut len v v (bs.take i) wr) (fun j _ => m - (intOf j).toNat)
  case atStart => exact ⟨0, _, rfl, Nat.zero_le _, H0.out⟩
  case round =>
    clear H0
    obtain ⟨i, v, rfl, hi, hM⟩ := hrel
    have HMb := hide hM
    clear hM
    by_cases hlt : i < m
    · obtain ⟨b, hb⟩ : ∃ b, bs[i]? = some b := ⟨bs[i]'(by rw [HM.out]; exact hlt), by rw [List.getElem?_eq_getElem]⟩
      obtain ⟨hbok, hr0⟩ := Hat.out i b hb
      have HR := hide (fun u (hu : Below w.heap.size w u) => range_below hr0 hu)
      have ha1 := ha (by omega)
      subst ha1
      have Htk : Hid (bs.take (i + 1) = bs.take i ++ [b]) := hide (by rw [List.take_add_one, hb]; rfl)
      have hbl : (bs.take i).length ≤ 1000000000 := by rw [List.length_take]; omega
      clear hr0 hb ha
      have d1 : decide ((i : Int) < (m : Int)) = true := by simpa using hlt
      have i1 : (0 : Int) ≤ (i : Int) := by omega
      have i2 : (i : Int) < (m : Int) := by omega
      have hsz : (blkC .u32 b).length = 33 := blkC_length hbok
      go_wp2_with (first
        | (refine wpList_load_part rfl 63 (.tmp 18) rfl g (off + i * 33) (blkC .u32 b) rfl (HR.out _ HMb.out.below) _ Tryd.underlying63 rfl (by rw [hsz]; kernel_rfl) ?_)
        | (refine wpList_store_all rfl 63 (.tmp 5) (.tmp 19) rfl wr.heap.size (blkC .u32 b).toArray _ 63 rfl rfl (heap_last _ _) (by rw [List.size_toArray, hsz]; rfl) (by rw [List.size_toArray, hsz]; kernel_rfl) (all_oneCell_toArray (blkC_one _ _)) ?_))
      intro w5 H5 HG5
      refine of_hid ?_
      have hws := HMb.out.Nu
      have hM5 := MB.other (HMb.out.up (below_new wr (.cells (blkC .u32 ⟨0, zeros 32⟩).toArray 63))) HG5.out hws (fun q hq => by have := (HMb.out.own.own q hq).2; omega)
      have HM5 := hide hM5
      clear hM5 HMb HG5 HR
      generalize wr.heap.size = B at *
      have hM6 := HM5.out.up (below_new w5 (.cells (blkC .i64 b).toArray 111))
      obtain ⟨v', w7, hrun, ho, hg, -⟩ := append_bk .i64 30 111 _ 40 Tryd.underlying30 info_ref (by omega) (by kernel_rfl) (w5.alloc (.cells (blkC .i64 b).toArray 111)) 30 v _ (bs.take i) w5.heap.size b 111 (0, 0) 1 hM6.own hM6.Nu hbok (heap_last _ _) hbl
      have HM7 := hide (hM6.append hg ho)
      have Hrun := hide hrun
      clear hrun
      obtain ⟨g', n', cap', hv'⟩ := own_some ho (by simp)
      subst hv'
      have Ho7 := hide ho
      obtain ⟨s0, s1, s2, s3⟩ := HM5.out.sig.cells
      obtain ⟨q0, q1, q2, q3⟩ := HM7.out.sig.cells
      have f3 := HM7.out.sig.free 3
      have c0 : w5.cell? ⟨B, 0, none⟩ = some (.int .u32 (b.w : Int)) := blk_cell H5.out rfl
      have hrs : w5.rangeAt B 1 (b8 b.s) := fun j x hx => blk_cell H5.out (by
        simp only [List.getElem?_toArray, blkC, Nat.add_comm 1 j, List.getElem?_cons_succ]
        exact hx)
      have hb32 : (b8 b.s).length = 32 := by rw [b8_length, hbok.2.1]
      have hw32 := hbok.1
      clear hM6 ho hg HM5 H5
      have Hbu : Hid (Tryd.prog.built 111 [(0, .int .i64 (b.w : Int)), (1, .agg (b8 b.s).toArray)] = some (blkC .i64 b).toArray) := hide (by rw [← u8s_b8]; exact built_ref b.w b.s hbok.2.1)
      iterate 22 (first | go_values | go_skip | go_guarded | go_step | go_upon)
      refine wpList_load_part rfl 61 (.tmp 25) rfl B 1 (b8 b.s) rfl hrs _ Tryd.underlying61 rfl (by rw [hb32]; kernel_rfl) ?_
      simp only [Act.put, List.setIfInBounds_toArray, List.set_cons_succ, List.set_cons_zero]
      refine wpList_build_at rfl 111 _ rfl [(0, .int .i64 (b.w : Int)), (1, .agg (b8 b.s).toArray)] rfl _ Hbu.out ?_
      simp only [Act.put, List.setIfInBounds_toArray, List.set_cons_succ, List.set_cons_zero]
      refine wpList_slice_to rfl 30 1 _ rfl [(0, blkV .i64 b)] rfl _ _ (one_ref w5 b hbok) ?_
      simp only [Act.put, List.setIfInBounds_toArray, List.set_cons_succ, List.set_cons_zero]
      refine wpList_append_at rfl 30 (.tmp 21) (.tmp 28) rfl Hrun.out ?_
      simp only [Act.put, List.setIfInBounds_toArray, List.set_cons_succ, List.set_cons_zero]
      go_wp2
      have HM8 := hide HM7.out.store
      rw [← Htk.out] at HM8
      go_roundw
      case rel => exact ⟨i + 1, _, by go_num, by omega, HM8.out⟩
      case measure => simp [intOf]; omega
    · obtain rfl : i = m := by omega
      have hall : bs.take i = bs := List.take_of_length_le (by rw [HM.out]; exact Nat.le_refl _)
      rw [hall] at HMb
      obtain ⟨av, cv, rfl⟩ : ∃ av cv, v = .slice av bs.length cv := by
        obtain ⟨_, av, cv, h, _⟩ := HMb.out.own.is
        exact ⟨av, cv, h⟩
      rw [HM.out] at HMb
      have d6 : decide ((i : Int) < (i : Int)) = false := by simp
      obtain ⟨r0, r1, r2, r3⟩ := HMb.out.sig.cells
      obtain ⟨s0, s1, s2, s3⟩ := sig_cells HMb.out.res
      obtain ⟨f0, f1, f2, f3⟩ := sig_free HMb.out.res
      have hneq : w.heap.size + 2 ≠ w.heap.size + 1 := by omega
      clear hi ha hall
      go_wp2
      have e := sig_set HMb.out.res (.int .i64 sz) (.int .i64 cut) (.int .i64 len) (.slice av i cv)
      have hg := grown_setCell (grown_setCell (grown_setCell (grown_setCell (World.grownBy.refl wr (some (w.heap.size + 1))) 0 (.int .i64 sz)) 1 (.int .i64 cut)) 2 (.int .i64 len)) 3 (.slice av i cv)
      have ho := HMb.out.own.kept hg (fun e => by have := (HMb.out.own.own _ e).1; omega)
      refine bodyPost_ret (v := sigV sz cut len (.slice av i cv)) ?_ rfl ⟨.slice av i cv, rfl, ho, below_set4 HMb.out.below (by omega) _ _ _ _⟩
      have hl := load_ref e
      simp [results, Tryd.results19, asAddr, hl]
end Go.Proofs.YtheambpddpfcfaaDoor.Kr
/- The reference's Same, at two lists alike. -/
namespace Go.Proofs.YtheambpddpfcfaaDoor.Ks
set_option linter.unusedVariables false
set_option linter.unusedSimpArgs false
set_option maxRecDepth 100000
open Go.ChangeShapes Go.WideShapes Go.ChangeAt Go.RowKit
open Go.Proofs.YtheambpddpfcfaaDoor.Wu Go.Proofs.YtheambpddpfcfaaDoor.Sm Go.Proofs.YtheambpddpfcfaaDoor.Sh Go.Proofs.YtheambpddpfcfaaDoor.Ba Go.Proofs.YtheambpddpfcfaaDoor.Bp Go.Proofs.YtheambpddpfcfaaDoor.Bs Go.Proofs.YtheambpddpfcfaaDoor.Ka Go.Proofs.YtheambpddpfcfaaDoor.Kb Go.Proofs.YtheambpddpfcfaaDoor.Kc Go.Proofs.YtheambpddpfcfaaDoor.Kd Go.Proofs.YtheambpddpfcfaaDoor.Ke Go.Proofs.YtheambpddpfcfaaDoor.Kf Go.Proofs.YtheambpddpfcfaaDoor.Rk Go.Proofs.YtheambpddpfcfaaDoor.Rh Go.Proofs.YtheambpddpfcfaaDoor.Rx Go.Proofs.YtheambpddpfcfaaDoor.Rw Go.Proofs.YtheambpddpfcfaaDoor.Rb1 Go.Proofs.YtheambpddpfcfaaDoor.Kg Go.Proofs.YtheambpddpfcfaaDoor.Kq Go.Proofs.YtheambpddpfcfaaDoor.Kr
attribute [local go_sem] kUpon_value kUpon_skip kUpon_enter
set_option maxHeartbeats 3200000 in
theorem same_c (w : World) (sz cut len : Int) (a a' : Option Addr) (m c c' : Nat) (bs : List Blk) (hb : IsBks .i64 w (.slice a m c) bs) (hb' : IsBks .i64 w (.slice a' m c') bs) (hm : bs.length = m) (hbig : m ≤ 1000000) :
    Calls Tryd.prog 18 #[sigV sz cut len (.slice a m c), sigV sz cut len (.slice a' m c')] w fun e w' => e = .returned (.bool true) ∧ Below w.heap.size w w' := by
  obtain ⟨a1, c1, g, off, hv, hmc, hcm, ha, hat⟩ := hb.at
  obtain ⟨a2, c2, g', off', hv', hmc', hcm', ha', hat'⟩ := hb'.at
  rw [hm] at hv hmc ha hv' hmc' ha'
  injection hv with h1 h2 h3
  injection hv' with h1' h2' h3'
  subst h1 h3 h1' h3'
  have Hat := hide hat
  have Hat' := hide hat'
  have HM := hide hm
  clear hat h2 hb hm hat' h2' hb'
  unfold sigV
  have HS := hide (heap_2a w (.cells #[.int .i64 sz, .int .i64 cut, .int .i64 len, .slice a m c] 32) (.cells #[.int .i64 sz, .int .i64 cut, .int .i64 len, .slice a' m c'] 32))
  have HS' := hide (heap_2b w (.cells #[.int .i64 sz, .int .i64 cut, .int .i64 len, .slice a m c] 32) (.cells #[.int .i64 sz, .int .i64 cut, .int .i64 len, .slice a' m c'] 32))
  have HB := hide (((Below.refl w.heap.size w).alloc (Nat.le_refl _) (.cells #[.int .i64 sz, .int .i64 cut, .int .i64 len, .slice a m c] 32)).alloc (by simp) (.cells #[.int .i64 sz, .int .i64 cut, .int .i64 len, .slice a' m c'] 32))
  have e1 : ∀ x : Int, (x == x) = true := fun x => by simp
  have e2 : ∀ x : Int, (x != x) = false := fun x => by simp
  have e3 := e2 (m : Int)
  have e4 : ((m : Nat) != m) = false := by simp
  clear e1
  go_enter Tryd.func18, Tryd.ntmps18
  go_wp2_with fail
  clear e2 e3 e4
  generalize ((w.alloc (.cells #[.int .i64 sz, .int .i64 cut, .int .i64 len, .slice a m c] 32)).alloc (.cells #[.int .i64 sz, .int .i64 cut, .int .i64 len, .slice a' m c'] 32)) = w1 at *
  go_loopw [5] (fun j wr => ∃ i, j = .int .i64 ((i : Nat) : Int) ∧ i ≤ m ∧ wr.heap[w.heap.size]? = some (.cells #[.int .i64 sz, .int .i64 cut, .int .i64 len, .slice a m c] 32 (0, 0)) ∧ wr.heap[w.heap.size + 1]? = some (.cells #[.int .i64 sz, .int .i64 cut, .int .i64 len, .slice a' m c'] 32 (0, 0)) ∧ Below w.heap.size w wr) (fun j _ => m - (intOf j).toNat)
  case atStart => exact ⟨0, rfl, Nat.zero_le _, HS.out, HS'.out, HB.out⟩
  case round =>
    clear HS HS' HB
    obtain ⟨i, rfl, hi, hS, hS', hB⟩ := hrel
    have HS := hide hS
    have HS' := hide hS'
    have HB := hide hB
    clear hS hS' hB
    obtain ⟨c0, c1, c2, c3⟩ := Sig4.cells (T := 32) HS.out
    by_cases hlt : i < m
    · obtain ⟨b, hb⟩ : ∃ b, bs[i]? = some b := ⟨bs[i]'(by rw [HM.out]; exact hlt), by rw [List.getElem?_eq_getElem]⟩
      obtain ⟨hbok, hr0⟩ := Hat.out i b hb
      obtain ⟨-, hr0'⟩ := Hat'.out i b hb
      have HR := hide (fun u (hu : Below w.heap.size w u) => range_below hr0 hu)
      have HR' := hide (fun u (hu : Below w.heap.size w u) => range_below hr0' hu)
      have ha1 := ha (by omega)
      have ha1' := ha' (by omega)
      subst ha1 ha1'
      clear hr0 hb ha ha' hr0'
      have d1 : decide ((i : Int) < (m : Int)) = true := by simpa using hlt
      have i1 : (0 : Int) ≤ (i : Int) := by omega
      have i2 : (i : Int) < (m : Int) := by omega
      have hsz : (blkC .i64 b).length = 33 := blkC_length hbok
      have hq := fun u => ref_eq b b hbok hbok u
      rw [show decide (b = b) = true by simp] at hq
      have hm : Tryd.prog.eqGuardType Tryd.prog.depth 111 = false := by kernel_rfl
      go_wp2_with fail
      refine wp_region_keep (fun u => u.heap[w.heap.size]? = some (.cells #[.int .i64 sz, .int .i64 cut, .int .i64 len, .slice (some ⟨g, off, none⟩) m c] 32 (0, 0)) ∧ u.heap[w.heap.size + 1]? = some (.cells #[.int .i64 sz, .int .i64 cut, .int .i64 len, .slice (some ⟨g', off', none⟩) m c'] 32 (0, 0)) ∧ Below w.heap.size w u) (by kernel_rfl) (by kernel_rfl) ⟨HS.out, HS'.out, HB.out.drew⟩ ?_
      repeat (first
        | (refine keep_step (v := .agg (blkC .i64 b).toArray) (by rfl) (fun u K hS hK => kUpon_load_mid 111 (.tmp 44) rfl g (off + i * 33) _ rfl (run_loadVar_mid (P := Tryd.prog) u g (off + i * 33) 111 (blkC .i64 b) _ (HR.out u hS.2.2) Tryd.underlying111 rfl (by rw [hsz]; kernel_rfl)) (hK _ hS)) ?_
           simp only [Act.put, List.setIfInBounds_toArray, List.set_cons_zero, List.set_cons_succ])
        | (refine keep_step (v := .agg (blkC .i64 b).toArray) (by rfl) (fun u K hS hK => kUpon_load_mid 111 (.tmp 49) rfl g' (off' + i * 33) _ rfl (run_loadVar_mid (P := Tryd.prog) u g' (off' + i * 33) 111 (blkC .i64 b) _ (HR'.out u hS.2.2) Tryd.underlying111 rfl (by rw [hsz]; kernel_rfl)) (hK _ hS)) ?_
           simp only [Act.put, List.setIfInBounds_toArray, List.set_cons_zero, List.set_cons_succ])
        | (refine keep_step (v := ?_) (by rfl) (fun u K hS hK => ?_) ?_
           rotate_left
           · obtain ⟨c0, c1, c2, c3⟩ := Sig4.cells (T := 32) hS.1
             obtain ⟨q0, q1, q2, q3⟩ := Sig4.cells (T := 32) hS.2.1
             (go_simp; with_reducible exact hK _ hS)
           simp only [Act.put, List.setIfInBounds_toArray, List.set_cons_zero, List.set_cons_succ]))
      refine keep_nil (fun w6 hS6 => ?_)
      have HS6 := hide hS6
      clear hS6 HS HS' HB c0 c1 c2 c3 hq hm
      go_wp2
      go_roundw
      case rel => exact ⟨i + 1, by go_num, by omega, HS6.out.1, HS6.out.2.1, HS6.out.2.2⟩
      case measure => simp [intOf]; omega
    · obtain rfl : i = m := by omega
      have d1 : decide ((i : Int) < (i : Int)) = false := by simp
      clear ha ha' hi
      go_wp2
      go_ret
      exact ⟨rfl, HB.out⟩
end Go.Proofs.YtheambpddpfcfaaDoor.Ks
/- BlockMakes' walk. -/
namespace Go.Proofs.YtheambpddpfcfaaDoor.BlockMakesW
set_option linter.unusedVariables false
set_option linter.unusedSimpArgs false
set_option maxRecDepth 100000
open Go.ChangeShapes Go.WideShapes Go.ChangeAt Go.RowKit
open Go.Proofs.YtheambpddpfcfaaDoor.Wu Go.Proofs.YtheambpddpfcfaaDoor.Sm Go.Proofs.YtheambpddpfcfaaDoor.Sh Go.Proofs.YtheambpddpfcfaaDoor.Ba Go.Proofs.YtheambpddpfcfaaDoor.Bp Go.Proofs.YtheambpddpfcfaaDoor.Bs Go.Proofs.YtheambpddpfcfaaDoor.Ka Go.Proofs.YtheambpddpfcfaaDoor.Kb Go.Proofs.YtheambpddpfcfaaDoor.Kc Go.Proofs.YtheambpddpfcfaaDoor.Kd Go.Proofs.YtheambpddpfcfaaDoor.Ke Go.Proofs.YtheambpddpfcfaaDoor.Kf Go.Proofs.YtheambpddpfcfaaDoor.Rk Go.Proofs.YtheambpddpfcfaaDoor.Rh Go.Proofs.YtheambpddpfcfaaDoor.Rw Go.Proofs.YtheambpddpfcfaaDoor.Kg Go.Proofs.YtheambpddpfcfaaDoor.Kp Go.Proofs.YtheambpddpfcfaaDoor.Kq Go.Proofs.YtheambpddpfcfaaDoor.Kr Go.Proofs.YtheambpddpfcfaaDoor.Ks
open Go.Proofs.YtheambpddpfcfaaDoor.Sn (Fst fst_keep)
open Go.Proofs.YtheambpddpfcfaaDoor.Sxa (Tbl tbl_keep)
open Go.Proofs.YtheambpddpfcfaaDoor.Su (cutL Cnt)
attribute [local go_sem] kUpon_value kUpon_skip kUpon_enter
/-- Sums that Make answers, and an error's number. -/
def MkP (q : IntKind) (sz cut len z : Int) (bs : List Blk) (w : World) (e : Ending) (w' : World) : Prop :=
  ∃ av cv, e = .returned (.tuple #[sigV sz cut len (.slice av bs.length cv), .int .i64 z]) ∧ IsBks q w' (.slice av bs.length cv) bs ∧ Below w.heap.size w w'
theorem make_any (a : Option Addr) (m c : Nat) (D : List Nat) (sz cut : Int) (hD : D.length = m) (h8 : All8 D) (hc : m ≤ c) (hcm : c ≤ 9223372036854775807) :
    ∃ (sz' cut' len' z : Int) (bs : List Blk), bs.length ≤ 4096 ∧ (∀ w, SrcB w a m D → Tbl w → Fst w → Calls Tryd.prog 16 #[.slice a m c, .int .i64 sz, .int .i64 cut] w (MkP .u32 sz' cut' len' z bs w)) ∧
      (∀ w, Calls Tryd.prog 17 #[.string (strN D), .int .i64 sz, .int .i64 cut] w (MkP .i64 sz' cut' len' z bs w)) := by
  by_cases hf : fitsE sz cut m = 0
  · have hz := fitsE_zero hf
    obtain ⟨s, rfl⟩ := Int.eq_ofNat_of_zero_le (show 0 ≤ sz by omega)
    obtain ⟨k, rfl⟩ := Int.eq_ofNat_of_zero_le (show 0 ≤ cut by omega)
    obtain ⟨n, hn⟩ : ∃ n : Nat, cntZ (m : Int) (s : Int) = (n : Int) := ⟨(cntZ (m : Int) (s : Int)).toNat, by have := cntZ_nonneg (m : Int) (s : Int); omega⟩
    have hl := mkB_length D s k n
    refine ⟨s, k, m, 0, mkB D s k n, by omega, fun w hs hT hF => ?_, fun w => ?_⟩
    · refine (make_ok a m c D s k n w hs hc hcm hf hn hT hF).mono ?_
      rintro e w' ⟨v, rfl, ho, hb⟩
      have his := ho.is
      obtain ⟨_, av, cv, rfl, _⟩ := ho.is
      exact ⟨av, cv, rfl, his, hb⟩
    · refine (refmake_ok D m s k n w hD h8 hf hn).mono ?_
      rintro e w' ⟨v, rfl, ho, hb⟩
      have his := ho.is
      obtain ⟨_, av, cv, rfl, _⟩ := ho.is
      exact ⟨av, cv, rfl, his, hb⟩
  · refine ⟨0, 0, 0, fitsE sz cut m, [], by simp, fun w hs hT hF => ?_, fun w => ?_⟩
    · refine (make_bad a m c sz cut w (by omega) hf).mono ?_
      rintro e w' ⟨rfl, hb⟩
      exact ⟨none, 0, rfl, IsBks.nil _ _, hb⟩
    · refine (refmake_bad D sz cut w (by omega) (by rw [hD]; exact hf)).mono ?_
      rintro e w' ⟨rfl, hb⟩
      rw [hD]
      exact ⟨none, 0, rfl, IsBks.nil _ _, hb⟩
/-- The stages of the last region. -/
def ET (w0 : World) (X1 X2 : Nat) (s1 s2 : Array Value) (sz cut len : Int) (v1 v2 : Value) (bs : List Blk) : List Value → World → Prop
  | [], u => Below w0.heap.size w0 u ∧ u.heap[X1]? = some (.cells s1 26 (0, 0)) ∧ u.heap[X2]? = some (.cells s2 32 (0, 0)) ∧ IsBks .u32 u v1 bs ∧ IsBks .i64 u v2 bs
  | [p], u => (Below w0.heap.size w0 u ∧ u.heap[X1]? = some (.cells s1 26 (0, 0)) ∧ u.heap[X2]? = some (.cells s2 32 (0, 0)) ∧ IsBks .u32 u v1 bs ∧ IsBks .i64 u v2 bs) ∧ ∃ av cv, p = sigV sz cut len (.slice av bs.length cv) ∧ IsBks .i64 u (.slice av bs.length cv) bs
  | _, _ => False
section
variable {w0 : World} {X1 X2 : Nat} {s1 s2 : Array Value} {sz cut len : Int} {v1 v2 : Value} {bs : List Blk}
theorem ET.up {h : List Value} {u u' : World} (H : ET w0 X1 X2 s1 s2 sz cut len v1 v2 bs h u) (hb : Below u.heap.size u u') : ET w0 X1 X2 s1 s2 sz cut len v1 v2 bs h u' := by
  match h, H with
  | [], ⟨h1, h2, h3, h4, h5⟩ => exact ⟨keepB hb (Nat.le_refl _) h1, below_blk hb (heap_lt h2) h2, below_blk hb (heap_lt h3) h3, h4.below hb, h5.below hb⟩
  | [_], ⟨⟨h1, h2, h3, h4, h5⟩, av, cv, h6, h7⟩ => exact ⟨⟨keepB hb (Nat.le_refl _) h1, below_blk hb (heap_lt h2) h2, below_blk hb (heap_lt h3) h3, h4.below hb, h5.below hb⟩, av, cv, h6, h7.below hb⟩
theorem ET.base {h : List Value} {u : World} (H : ET w0 X1 X2 s1 s2 sz cut len v1 v2 bs h u) : Below w0.heap.size w0 u ∧ u.heap[X1]? = some (.cells s1 26 (0, 0)) ∧ u.heap[X2]? = some (.cells s2 32 (0, 0)) ∧ IsBks .u32 u v1 bs ∧ IsBks .i64 u v2 bs := by
  match h, H with
  | [], H => exact H
  | [_], H => exact H.1
end
theorem out_walk (a : Option Addr) (m c : Nat) (sz cut : Int) (w : World) (hT : Tbl w) (hF : Fst w) (hg : 5000 < m ∨ (200 < m ∧ m ≤ 5000 ∧ 0 < sz ∧ 40 < (m : Int) / sz ∧ (m : Int) / sz < 4000)) :
    Calls Tryd.prog 3 #[.slice a m c, .int .i64 sz, .int .i64 cut] w fun e w' => e = .returned (.bool true) ∧ Below w.heap.size w w' := by
  have HH := hide (sums_c w hT hF)
  clear hT hF
  rcases hg with h1 | ⟨h1, h2, h3, h4, h5⟩
  · have d1 : decide ((5000 : Int) < (m : Int)) = true := by simp; omega
    have d1' : decide (5000 < m) = true := by simp; omega
    clear h1
    go_enter Tryd.func3, Tryd.ntmps3
    go_wp2_with fail
    refine HH.out.mono ?_
    rintro e w1 ⟨rfl, hb1⟩
    have HB1 := hide hb1
    clear hb1
    go_wp2
    go_ret
    exact ⟨rfl, HB1.out⟩
  · have d1 : decide ((5000 : Int) < (m : Int)) = false := by simp; omega
    have d1' : decide (5000 < m) = false := by simp; omega
    have d2 : decide ((200 : Int) < (m : Int)) = true := by simp; omega
    have d2' : decide (200 < m) = true := by simp; omega
    have d3 : decide (0 < sz) = true := by simpa using h3
    have e1 : (m : Int).tdiv sz = (m : Int) / sz := Int.tdiv_eq_ediv_of_nonneg (by omega)
    have hs0 : sz ≠ 0 := by omega
    have hs1 : sz ≠ -1 := by omega
    generalize (m : Int) / sz = q at *
    have d4 : decide (40 < q) = true := by simpa using h4
    have d5 : decide (q < 4000) = true := by simpa using h5
    clear h1 h2 h3
    go_enter Tryd.func3, Tryd.ntmps3
    go_wp2_with fail
    refine HH.out.mono ?_
    rintro e w1 ⟨rfl, hb1⟩
    have HB1 := hide hb1
    clear hb1
    go_wp2
    go_ret
    exact ⟨rfl, HB1.out⟩
set_option maxHeartbeats 6400000 in
theorem in_walk (a : Option Addr) (m c : Nat) (D : List Nat) (sz cut : Int) (w : World) (hs : SrcB w a m D) (hc : m ≤ c) (hcm : c ≤ 9223372036854775807) (hT : Tbl w) (hF : Fst w) (hm : m ≤ 5000) (hg : m ≤ 200 ∨ (200 < m ∧ (sz ≤ 0 ∨ (0 < sz ∧ ((m : Int) / sz ≤ 40 ∨ (40 < (m : Int) / sz ∧ 4000 ≤ (m : Int) / sz)))))) :
    Calls Tryd.prog 3 #[.slice a m c, .int .i64 sz, .int .i64 cut] w fun e w' => e = .returned (.bool true) ∧ Below w.heap.size w w' := by
  have HH := hide (sums_c w hT hF)
  obtain ⟨sz', cut', len', z, bs, hbl, hA, hB⟩ := make_any a m c D sz cut hs.1 hs.2.1 hc hcm
  have HA := hide (fun u (hu : Below w.heap.size w u) => hA u (hs.below hu) (tbl_keep hT hu (Nat.le_refl _)) (fst_keep hF hu (Nat.le_refl _)))
  have HB := hide hB
  have HS := hide (fun u (hu : Below w.heap.size w u) => conv_src (cap := c) (hs.below hu))
  clear hA hB hs hT hF
  have d1 : decide ((5000 : Int) < (m : Int)) = false := by simp; omega
  have d1' : decide (5000 < m) = false := by simp; omega
  have e1 : 0 < sz → (m : Int).tdiv sz = (m : Int) / sz := fun _ => Int.tdiv_eq_ediv_of_nonneg (by omega)
  have hqb : 0 < sz → 0 ≤ (m : Int) / sz ∧ (m : Int) / sz ≤ 5000 := fun h => by
    have := div_bd (show (0 : Int) ≤ m by omega) (show (1 : Int) ≤ sz by omega)
    omega
  obtain ⟨q, hq⟩ : ∃ q, q = (m : Int) / sz := ⟨_, rfl⟩
  rw [← hq] at hg e1 hqb
  clear hq
  obtain ⟨XD, hXD⟩ : ∃ XD, XD = strN D := ⟨_, rfl⟩
  rw [← hXD] at HB HS
  have HBr := HB
  clear hXD HB
  rcases hg with h1 | ⟨h1, h2 | ⟨h2, h3 | ⟨h3, h4⟩⟩⟩
  · have d2 : decide ((200 : Int) < (m : Int)) = false := by simp; omega
    have d2' : decide (200 < m) = false := by simp; omega
    clear h1 e1 hqb
    go_enter Tryd.func3, Tryd.ntmps3
    go_wp2_with fail
    refine HH.out.mono ?_
    rintro e w1 ⟨rfl, hb1⟩
    have HB1 := hide hb1
    clear hb1 HH
    go_wp2_with fail
    (with_reducible refine Calls.mono (HA.out w1 HB1.out) ?_)
    rintro e w2 ⟨a1, c1, rfl, hI1, hb2⟩
    have HB2 := hide (keepB hb2 (Nat.le_refl _) HB1.out)
    have hn3 := below_new w2 (.cells #[.int .i64 sz', .int .i64 cut', .int .i64 len', .slice a1 bs.length c1] 26)
    have HB3 := hide (keepB hn3 (Nat.le_refl _) HB2.out)
    have HI3 := hide (hI1.below hn3)
    have HS3 := hide (heap_last w2 (.cells #[.int .i64 sz', .int .i64 cut', .int .i64 len', .slice a1 bs.length c1] 26))
    have hcv := HS.out _ HB3.out
    clear hb2 hI1 hn3 HB1 HB2 HA HS
    unfold sigV
    go_wp2_with fail
    clear hcv
    generalize (w2.alloc (.cells #[.int .i64 sz', .int .i64 cut', .int .i64 len', .slice a1 bs.length c1] 26)) = w3 at *
    (with_reducible refine Calls.mono (HBr.out w3) ?_)
    rintro e w4 ⟨a2, c2, rfl, hI2, hb4⟩
    have HB4 := hide (keepB hb4 (Nat.le_refl _) HB3.out)
    have hn5 := below_new w4 (.cells #[.int .i64 sz', .int .i64 cut', .int .i64 len', .slice a2 bs.length c2] 32)
    have H0 : Hid (ET w w2.heap.size w4.heap.size #[.int .i64 sz', .int .i64 cut', .int .i64 len', .slice a1 bs.length c1] #[.int .i64 sz', .int .i64 cut', .int .i64 len', .slice a2 bs.length c2] sz' cut' len' (.slice a1 bs.length c1) (.slice a2 bs.length c2) bs [] (w4.alloc (.cells #[.int .i64 sz', .int .i64 cut', .int .i64 len', .slice a2 bs.length c2] 32)).drew) :=
      hide ⟨(keepB hn5 (Nat.le_refl _) HB4.out).drew, heap_old (below_blk hb4 (heap_lt HS3.out) HS3.out) _, heap_last _ _, (HI3.out.below hb4).below hn5.drew, hI2.below hn5.drew⟩
    clear hb4 hI2 hn5 HB3 HB4 HI3 HS3 HBr
    unfold sigV
    have ez : (z == z) = true := by simp
    go_wp2_with fail
    clear d1 d1'
    generalize (w4.alloc (.cells #[.int .i64 sz', .int .i64 cut', .int .i64 len', .slice a2 bs.length c2] 32)) = w5 at *
    refine wp_region_h (ET w w2.heap.size w4.heap.size #[.int .i64 sz', .int .i64 cut', .int .i64 len', .slice a1 bs.length c1] #[.int .i64 sz', .int .i64 cut', .int .i64 len', .slice a2 bs.length c2] sz' cut' len' (.slice a1 bs.length c1) (.slice a2 bs.length c2) bs)
      [some (some (.int .i64 z)), some (some (.int .i64 z)), some (some (.bool true)), some (some (.bool true)), some (some (sigV sz' cut' len' (.slice a1 bs.length c1))), none, some (some (sigV sz' cut' len' (.slice a2 bs.length c2))), some none, some (some (.bool true)), some (some (.bool true))] [3, 3, 3, 3, 3, 0, 3, 0, 3, 3] (by kernel_rfl) (by kernel_rfl) [5] [5, 7] rfl rfl (by kernel_rfl) (by kernel_rfl) H0.out ?_
    refine gF_step (by rfl) (fun h u K hL hT hK => ?_) ?_
    · go_simp
      exact hK _ hT
    simp only [Act.put, List.setIfInBounds_toArray, List.set_cons_zero, List.set_cons_succ]
    refine gF_step (by rfl) (fun h u K hL hT hK => ?_) ?_
    · go_simp
      exact hK _ hT
    simp only [Act.put, List.setIfInBounds_toArray, List.set_cons_zero, List.set_cons_succ]
    refine gF_step (by rfl) (fun h u K hL hT hK => ?_) ?_
    · go_simp
      exact hK _ hT
    simp only [Act.put, List.setIfInBounds_toArray, List.set_cons_zero, List.set_cons_succ]
    refine gF_step (by rfl) (fun h u K hL hT hK => ?_) ?_
    · go_simp
      exact hK _ hT
    simp only [Act.put, List.setIfInBounds_toArray, List.set_cons_zero, List.set_cons_succ]
    refine gF_step (by rfl) (fun h u K hL hT hK => ?_) ?_
    · obtain ⟨r0, r1, r2, r3⟩ := Sig4.cells (T := 26) hT.base.2.1
      go_simp
      exact hK _ hT
    simp only [Act.put, List.setIfInBounds_toArray, List.set_cons_zero, List.set_cons_succ]
    refine gD_step (fun p => ∃ av cv, p = sigV sz' cut' len' (.slice av bs.length cv)) ⟨_, none, 0, rfl⟩ (by rfl) (fun u K hT hK => ?_) (fun p hp => ?_)
    · have hT0 : ET w w2.heap.size w4.heap.size #[.int .i64 sz', .int .i64 cut', .int .i64 len', .slice a1 bs.length c1] #[.int .i64 sz', .int .i64 cut', .int .i64 len', .slice a2 bs.length c2] sz' cut' len' (.slice a1 bs.length c1) (.slice a2 bs.length c2) bs [] u := hT
      go_simp
      go_at_call 19
      (with_reducible refine Calls.mono (plain_c u sz' cut' len' a1 bs.length c1 bs hT0.base.2.2.2.1 rfl (by omega)) ?_)
      rintro e u2 ⟨v, rfl, ho, hu⟩
      have his := ho.is
      obtain ⟨_, av, cv, rfl, _⟩ := ho.is
      exact hK _ _ ⟨av, cv, rfl⟩ ⟨ET.up hT0 hu, av, cv, rfl, his⟩
    obtain ⟨av, cv, rfl⟩ := hp
    simp only [Act.put, List.setIfInBounds_toArray, List.set_cons_zero, List.set_cons_succ]
    refine gF_step (by rfl) (fun h u K hL hT hK => ?_) ?_
    · obtain ⟨r0, r1, r2, r3⟩ := Sig4.cells (T := 32) hT.base.2.2.1
      go_simp
      exact hK _ hT
    simp only [Act.put, List.setIfInBounds_toArray, List.set_cons_zero, List.set_cons_succ]
    refine gG_step (v := .bool true) (by rfl) (fun h' u K hT hK => ?_) ?_
    · have hT1 : ∃ av' cv', sigV sz' cut' len' (.slice av bs.length cv) = sigV sz' cut' len' (.slice av' bs.length cv') ∧ IsBks .i64 u (.slice av' bs.length cv') bs := by
        match h', hT with
        | [], hT => exact hT.2
      obtain ⟨av', cv', e, hi⟩ := hT1
      have e' : av = av' ∧ cv = cv' := by
        unfold sigV at e
        simpa using e
      obtain ⟨rfl, rfl⟩ := e'
      have hb5 := hT.base.2.2.2.2
      have hsm := same_c u sz' cut' len' av a2 bs.length cv c2 bs hi hb5 rfl (by omega)
      unfold sigV at hsm ⊢
      go_simp
      go_at_call 18
      (with_reducible refine Calls.mono hsm ?_)
      rintro e u2 ⟨rfl, hu⟩
      exact hK _ (hT.up hu)
    simp only [Act.put, List.setIfInBounds_toArray, List.set_cons_zero, List.set_cons_succ]
    refine gF_step (by rfl) (fun h u K hL hT hK => ?_) ?_
    · go_simp
      exact hK _ hT
    simp only [Act.put, List.setIfInBounds_toArray, List.set_cons_zero, List.set_cons_succ]
    refine gF_step (by rfl) (fun h u K hL hT hK => ?_) ?_
    · go_simp
      exact hK _ hT
    simp only [Act.put, List.setIfInBounds_toArray, List.set_cons_zero, List.set_cons_succ]
    refine g_nil (fun w6 hT6 => ?_)
    have HB6 := hide hT6.base.1
    clear hT6 H0
    go_wp2
    go_ret
    exact ⟨rfl, HB6.out⟩
  · have d2 : decide ((200 : Int) < (m : Int)) = true := by simp; omega
    have d2' : decide (200 < m) = true := by simp; omega
    have d3 : decide (0 < sz) = false := by simp; omega
    clear h1 h2 e1 hqb
    go_enter Tryd.func3, Tryd.ntmps3
    go_wp2_with fail
    refine HH.out.mono ?_
    rintro e w1 ⟨rfl, hb1⟩
    have HB1 := hide hb1
    clear hb1 HH
    go_wp2_with fail
    (with_reducible refine Calls.mono (HA.out w1 HB1.out) ?_)
    rintro e w2 ⟨a1, c1, rfl, hI1, hb2⟩
    have HB2 := hide (keepB hb2 (Nat.le_refl _) HB1.out)
    have hn3 := below_new w2 (.cells #[.int .i64 sz', .int .i64 cut', .int .i64 len', .slice a1 bs.length c1] 26)
    have HB3 := hide (keepB hn3 (Nat.le_refl _) HB2.out)
    have HI3 := hide (hI1.below hn3)
    have HS3 := hide (heap_last w2 (.cells #[.int .i64 sz', .int .i64 cut', .int .i64 len', .slice a1 bs.length c1] 26))
    have hcv := HS.out _ HB3.out
    clear hb2 hI1 hn3 HB1 HB2 HA HS
    unfold sigV
    go_wp2_with fail
    clear hcv
    generalize (w2.alloc (.cells #[.int .i64 sz', .int .i64 cut', .int .i64 len', .slice a1 bs.length c1] 26)) = w3 at *
    (with_reducible refine Calls.mono (HBr.out w3) ?_)
    rintro e w4 ⟨a2, c2, rfl, hI2, hb4⟩
    have HB4 := hide (keepB hb4 (Nat.le_refl _) HB3.out)
    have hn5 := below_new w4 (.cells #[.int .i64 sz', .int .i64 cut', .int .i64 len', .slice a2 bs.length c2] 32)
    have H0 : Hid (ET w w2.heap.size w4.heap.size #[.int .i64 sz', .int .i64 cut', .int .i64 len', .slice a1 bs.length c1] #[.int .i64 sz', .int .i64 cut', .int .i64 len', .slice a2 bs.length c2] sz' cut' len' (.slice a1 bs.length c1) (.slice a2 bs.length c2) bs [] (w4.alloc (.cells #[.int .i64 sz', .int .i64 cut', .int .i64 len', .slice a2 bs.length c2] 32)).drew) :=
      hide ⟨(keepB hn5 (Nat.le_refl _) HB4.out).drew, heap_old (below_blk hb4 (heap_lt HS3.out) HS3.out) _, heap_last _ _, (HI3.out.below hb4).below hn5.drew, hI2.below hn5.drew⟩
    clear hb4 hI2 hn5 HB3 HB4 HI3 HS3 HBr
    unfold sigV
    have ez : (z == z) = true := by simp
    go_wp2_with fail
    clear d1 d1'
    generalize (w4.alloc (.cells #[.int .i64 sz', .int .i64 cut', .int .i64 len', .slice a2 bs.length c2] 32)) = w5 at *
    refine wp_region_h (ET w w2.heap.size w4.heap.size #[.int .i64 sz', .int .i64 cut', .int .i64 len', .slice a1 bs.length c1] #[.int .i64 sz', .int .i64 cut', .int .i64 len', .slice a2 bs.length c2] sz' cut' len' (.slice a1 bs.length c1) (.slice a2 bs.length c2) bs)
      [some (some (.int .i64 z)), some (some (.int .i64 z)), some (some (.bool true)), some (some (.bool true)), some (some (sigV sz' cut' len' (.slice a1 bs.length c1))), none, some (some (sigV sz' cut' len' (.slice a2 bs.length c2))), some none, some (some (.bool true)), some (some (.bool true))] [3, 3, 3, 3, 3, 0, 3, 0, 3, 3] (by kernel_rfl) (by kernel_rfl) [5] [5, 7] rfl rfl (by kernel_rfl) (by kernel_rfl) H0.out ?_
    refine gF_step (by rfl) (fun h u K hL hT hK => ?_) ?_
    · go_simp
      exact hK _ hT
    simp only [Act.put, List.setIfInBounds_toArray, List.set_cons_zero, List.set_cons_succ]
    refine gF_step (by rfl) (fun h u K hL hT hK => ?_) ?_
    · go_simp
      exact hK _ hT
    simp only [Act.put, List.setIfInBounds_toArray, List.set_cons_zero, List.set_cons_succ]
    refine gF_step (by rfl) (fun h u K hL hT hK => ?_) ?_
    · go_simp
      exact hK _ hT
    simp only [Act.put, List.setIfInBounds_toArray, List.set_cons_zero, List.set_cons_succ]
    refine gF_step (by rfl) (fun h u K hL hT hK => ?_) ?_
    · go_simp
      exact hK _ hT
    simp only [Act.put, List.setIfInBounds_toArray, List.set_cons_zero, List.set_cons_succ]
    refine gF_step (by rfl) (fun h u K hL hT hK => ?_) ?_
    · obtain ⟨r0, r1, r2, r3⟩ := Sig4.cells (T := 26) hT.base.2.1
      go_simp
      exact hK _ hT
    simp only [Act.put, List.setIfInBounds_toArray, List.set_cons_zero, List.set_cons_succ]
    refine gD_step (fun p => ∃ av cv, p = sigV sz' cut' len' (.slice av bs.length cv)) ⟨_, none, 0, rfl⟩ (by rfl) (fun u K hT hK => ?_) (fun p hp => ?_)
    · have hT0 : ET w w2.heap.size w4.heap.size #[.int .i64 sz', .int .i64 cut', .int .i64 len', .slice a1 bs.length c1] #[.int .i64 sz', .int .i64 cut', .int .i64 len', .slice a2 bs.length c2] sz' cut' len' (.slice a1 bs.length c1) (.slice a2 bs.length c2) bs [] u := hT
      go_simp
      go_at_call 19
      (with_reducible refine Calls.mono (plain_c u sz' cut' len' a1 bs.length c1 bs hT0.base.2.2.2.1 rfl (by omega)) ?_)
      rintro e u2 ⟨v, rfl, ho, hu⟩
      have his := ho.is
      obtain ⟨_, av, cv, rfl, _⟩ := ho.is
      exact hK _ _ ⟨av, cv, rfl⟩ ⟨ET.up hT0 hu, av, cv, rfl, his⟩
    obtain ⟨av, cv, rfl⟩ := hp
    simp only [Act.put, List.setIfInBounds_toArray, List.set_cons_zero, List.set_cons_succ]
    refine gF_step (by rfl) (fun h u K hL hT hK => ?_) ?_
    · obtain ⟨r0, r1, r2, r3⟩ := Sig4.cells (T := 32) hT.base.2.2.1
      go_simp
      exact hK _ hT
    simp only [Act.put, List.setIfInBounds_toArray, List.set_cons_zero, List.set_cons_succ]
    refine gG_step (v := .bool true) (by rfl) (fun h' u K hT hK => ?_) ?_
    · have hT1 : ∃ av' cv', sigV sz' cut' len' (.slice av bs.length cv) = sigV sz' cut' len' (.slice av' bs.length cv') ∧ IsBks .i64 u (.slice av' bs.length cv') bs := by
        match h', hT with
        | [], hT => exact hT.2
      obtain ⟨av', cv', e, hi⟩ := hT1
      have e' : av = av' ∧ cv = cv' := by
        unfold sigV at e
        simpa using e
      obtain ⟨rfl, rfl⟩ := e'
      have hb5 := hT.base.2.2.2.2
      have hsm := same_c u sz' cut' len' av a2 bs.length cv c2 bs hi hb5 rfl (by omega)
      unfold sigV at hsm ⊢
      go_simp
      go_at_call 18
      (with_reducible refine Calls.mono hsm ?_)
      rintro e u2 ⟨rfl, hu⟩
      exact hK _ (hT.up hu)
    simp only [Act.put, List.setIfInBounds_toArray, List.set_cons_zero, List.set_cons_succ]
    refine gF_step (by rfl) (fun h u K hL hT hK => ?_) ?_
    · go_simp
      exact hK _ hT
    simp only [Act.put, List.setIfInBounds_toArray, List.set_cons_zero, List.set_cons_succ]
    refine gF_step (by rfl) (fun h u K hL hT hK => ?_) ?_
    · go_simp
      exact hK _ hT
    simp only [Act.put, List.setIfInBounds_toArray, List.set_cons_zero, List.set_cons_succ]
    refine g_nil (fun w6 hT6 => ?_)
    have HB6 := hide hT6.base.1
    clear hT6 H0
    go_wp2
    go_ret
    exact ⟨rfl, HB6.out⟩
  · have d2 : decide ((200 : Int) < (m : Int)) = true := by simp; omega
    have d2' : decide (200 < m) = true := by simp; omega
    have d3 : decide (0 < sz) = true := by simp; omega
    have d4 : decide (40 < q) = false := by simp; omega
    have e2 := e1 h2
    obtain ⟨hq1, hq2⟩ := hqb h2
    have hs0 : sz ≠ 0 := by omega
    have hs1 : sz ≠ -1 := by omega
    clear h1 h2 h3 e1 hqb
    go_enter Tryd.func3, Tryd.ntmps3
    go_wp2_with fail
    refine HH.out.mono ?_
    rintro e w1 ⟨rfl, hb1⟩
    have HB1 := hide hb1
    clear hb1 HH
    go_wp2_with fail
    (with_reducible refine Calls.mono (HA.out w1 HB1.out) ?_)
    rintro e w2 ⟨a1, c1, rfl, hI1, hb2⟩
    have HB2 := hide (keepB hb2 (Nat.le_refl _) HB1.out)
    have hn3 := below_new w2 (.cells #[.int .i64 sz', .int .i64 cut', .int .i64 len', .slice a1 bs.length c1] 26)
    have HB3 := hide (keepB hn3 (Nat.le_refl _) HB2.out)
    have HI3 := hide (hI1.below hn3)
    have HS3 := hide (heap_last w2 (.cells #[.int .i64 sz', .int .i64 cut', .int .i64 len', .slice a1 bs.length c1] 26))
    have hcv := HS.out _ HB3.out
    clear hb2 hI1 hn3 HB1 HB2 HA HS
    unfold sigV
    go_wp2_with fail
    clear hcv
    generalize (w2.alloc (.cells #[.int .i64 sz', .int .i64 cut', .int .i64 len', .slice a1 bs.length c1] 26)) = w3 at *
    (with_reducible refine Calls.mono (HBr.out w3) ?_)
    rintro e w4 ⟨a2, c2, rfl, hI2, hb4⟩
    have HB4 := hide (keepB hb4 (Nat.le_refl _) HB3.out)
    have hn5 := below_new w4 (.cells #[.int .i64 sz', .int .i64 cut', .int .i64 len', .slice a2 bs.length c2] 32)
    have H0 : Hid (ET w w2.heap.size w4.heap.size #[.int .i64 sz', .int .i64 cut', .int .i64 len', .slice a1 bs.length c1] #[.int .i64 sz', .int .i64 cut', .int .i64 len', .slice a2 bs.length c2] sz' cut' len' (.slice a1 bs.length c1) (.slice a2 bs.length c2) bs [] (w4.alloc (.cells #[.int .i64 sz', .int .i64 cut', .int .i64 len', .slice a2 bs.length c2] 32)).drew) :=
      hide ⟨(keepB hn5 (Nat.le_refl _) HB4.out).drew, heap_old (below_blk hb4 (heap_lt HS3.out) HS3.out) _, heap_last _ _, (HI3.out.below hb4).below hn5.drew, hI2.below hn5.drew⟩
    clear hb4 hI2 hn5 HB3 HB4 HI3 HS3 HBr
    unfold sigV
    have ez : (z == z) = true := by simp
    go_wp2_with fail
    clear d1 d1'
    generalize (w4.alloc (.cells #[.int .i64 sz', .int .i64 cut', .int .i64 len', .slice a2 bs.length c2] 32)) = w5 at *
    refine wp_region_h (ET w w2.heap.size w4.heap.size #[.int .i64 sz', .int .i64 cut', .int .i64 len', .slice a1 bs.length c1] #[.int .i64 sz', .int .i64 cut', .int .i64 len', .slice a2 bs.length c2] sz' cut' len' (.slice a1 bs.length c1) (.slice a2 bs.length c2) bs)
      [some (some (.int .i64 z)), some (some (.int .i64 z)), some (some (.bool true)), some (some (.bool true)), some (some (sigV sz' cut' len' (.slice a1 bs.length c1))), none, some (some (sigV sz' cut' len' (.slice a2 bs.length c2))), some none, some (some (.bool true)), some (some (.bool true))] [3, 3, 3, 3, 3, 0, 3, 0, 3, 3] (by kernel_rfl) (by kernel_rfl) [5] [5, 7] rfl rfl (by kernel_rfl) (by kernel_rfl) H0.out ?_
    refine gF_step (by rfl) (fun h u K hL hT hK => ?_) ?_
    · go_simp
      exact hK _ hT
    simp only [Act.put, List.setIfInBounds_toArray, List.set_cons_zero, List.set_cons_succ]
    refine gF_step (by rfl) (fun h u K hL hT hK => ?_) ?_
    · go_simp
      exact hK _ hT
    simp only [Act.put, List.setIfInBounds_toArray, List.set_cons_zero, List.set_cons_succ]
    refine gF_step (by rfl) (fun h u K hL hT hK => ?_) ?_
    · go_simp
      exact hK _ hT
    simp only [Act.put, List.setIfInBounds_toArray, List.set_cons_zero, List.set_cons_succ]
    refine gF_step (by rfl) (fun h u K hL hT hK => ?_) ?_
    · go_simp
      exact hK _ hT
    simp only [Act.put, List.setIfInBounds_toArray, List.set_cons_zero, List.set_cons_succ]
    refine gF_step (by rfl) (fun h u K hL hT hK => ?_) ?_
    · obtain ⟨r0, r1, r2, r3⟩ := Sig4.cells (T := 26) hT.base.2.1
      go_simp
      exact hK _ hT
    simp only [Act.put, List.setIfInBounds_toArray, List.set_cons_zero, List.set_cons_succ]
    refine gD_step (fun p => ∃ av cv, p = sigV sz' cut' len' (.slice av bs.length cv)) ⟨_, none, 0, rfl⟩ (by rfl) (fun u K hT hK => ?_) (fun p hp => ?_)
    · have hT0 : ET w w2.heap.size w4.heap.size #[.int .i64 sz', .int .i64 cut', .int .i64 len', .slice a1 bs.length c1] #[.int .i64 sz', .int .i64 cut', .int .i64 len', .slice a2 bs.length c2] sz' cut' len' (.slice a1 bs.length c1) (.slice a2 bs.length c2) bs [] u := hT
      go_simp
      go_at_call 19
      (with_reducible refine Calls.mono (plain_c u sz' cut' len' a1 bs.length c1 bs hT0.base.2.2.2.1 rfl (by omega)) ?_)
      rintro e u2 ⟨v, rfl, ho, hu⟩
      have his := ho.is
      obtain ⟨_, av, cv, rfl, _⟩ := ho.is
      exact hK _ _ ⟨av, cv, rfl⟩ ⟨ET.up hT0 hu, av, cv, rfl, his⟩
    obtain ⟨av, cv, rfl⟩ := hp
    simp only [Act.put, List.setIfInBounds_toArray, List.set_cons_zero, List.set_cons_succ]
    refine gF_step (by rfl) (fun h u K hL hT hK => ?_) ?_
    · obtain ⟨r0, r1, r2, r3⟩ := Sig4.cells (T := 32) hT.base.2.2.1
      go_simp
      exact hK _ hT
    simp only [Act.put, List.setIfInBounds_toArray, List.set_cons_zero, List.set_cons_succ]
    refine gG_step (v := .bool true) (by rfl) (fun h' u K hT hK => ?_) ?_
    · have hT1 : ∃ av' cv', sigV sz' cut' len' (.slice av bs.length cv) = sigV sz' cut' len' (.slice av' bs.length cv') ∧ IsBks .i64 u (.slice av' bs.length cv') bs := by
        match h', hT with
        | [], hT => exact hT.2
      obtain ⟨av', cv', e, hi⟩ := hT1
      have e' : av = av' ∧ cv = cv' := by
        unfold sigV at e
        simpa using e
      obtain ⟨rfl, rfl⟩ := e'
      have hb5 := hT.base.2.2.2.2
      have hsm := same_c u sz' cut' len' av a2 bs.length cv c2 bs hi hb5 rfl (by omega)
      unfold sigV at hsm ⊢
      go_simp
      go_at_call 18
      (with_reducible refine Calls.mono hsm ?_)
      rintro e u2 ⟨rfl, hu⟩
      exact hK _ (hT.up hu)
    simp only [Act.put, List.setIfInBounds_toArray, List.set_cons_zero, List.set_cons_succ]
    refine gF_step (by rfl) (fun h u K hL hT hK => ?_) ?_
    · go_simp
      exact hK _ hT
    simp only [Act.put, List.setIfInBounds_toArray, List.set_cons_zero, List.set_cons_succ]
    refine gF_step (by rfl) (fun h u K hL hT hK => ?_) ?_
    · go_simp
      exact hK _ hT
    simp only [Act.put, List.setIfInBounds_toArray, List.set_cons_zero, List.set_cons_succ]
    refine g_nil (fun w6 hT6 => ?_)
    have HB6 := hide hT6.base.1
    clear hT6 H0
    go_wp2
    go_ret
    exact ⟨rfl, HB6.out⟩
  · have d2 : decide ((200 : Int) < (m : Int)) = true := by simp; omega
    have d2' : decide (200 < m) = true := by simp; omega
    have d3 : decide (0 < sz) = true := by simp; omega
    have d4 : decide (40 < q) = true := by simp; omega
    have d5 : decide (q < 4000) = false := by simp; omega
    have e2 := e1 h2
    obtain ⟨hq1, hq2⟩ := hqb h2
    have hs0 : sz ≠ 0 := by omega
    have hs1 : sz ≠ -1 := by omega
    clear h1 h2 h3 h4 e1 hqb
    go_enter Tryd.func3, Tryd.ntmps3
    go_wp2_with fail
    refine HH.out.mono ?_
    rintro e w1 ⟨rfl, hb1⟩
    have HB1 := hide hb1
    clear hb1 HH
    go_wp2_with fail
    (with_reducible refine Calls.mono (HA.out w1 HB1.out) ?_)
    rintro e w2 ⟨a1, c1, rfl, hI1, hb2⟩
    have HB2 := hide (keepB hb2 (Nat.le_refl _) HB1.out)
    have hn3 := below_new w2 (.cells #[.int .i64 sz', .int .i64 cut', .int .i64 len', .slice a1 bs.length c1] 26)
    have HB3 := hide (keepB hn3 (Nat.le_refl _) HB2.out)
    have HI3 := hide (hI1.below hn3)
    have HS3 := hide (heap_last w2 (.cells #[.int .i64 sz', .int .i64 cut', .int .i64 len', .slice a1 bs.length c1] 26))
    have hcv := HS.out _ HB3.out
    clear hb2 hI1 hn3 HB1 HB2 HA HS
    unfold sigV
    go_wp2_with fail
    clear hcv
    generalize (w2.alloc (.cells #[.int .i64 sz', .int .i64 cut', .int .i64 len', .slice a1 bs.length c1] 26)) = w3 at *
    (with_reducible refine Calls.mono (HBr.out w3) ?_)
    rintro e w4 ⟨a2, c2, rfl, hI2, hb4⟩
    have HB4 := hide (keepB hb4 (Nat.le_refl _) HB3.out)
    have hn5 := below_new w4 (.cells #[.int .i64 sz', .int .i64 cut', .int .i64 len', .slice a2 bs.length c2] 32)
    have H0 : Hid (ET w w2.heap.size w4.heap.size #[.int .i64 sz', .int .i64 cut', .int .i64 len', .slice a1 bs.length c1] #[.int .i64 sz', .int .i64 cut', .int .i64 len', .slice a2 bs.length c2] sz' cut' len' (.slice a1 bs.length c1) (.slice a2 bs.length c2) bs [] (w4.alloc (.cells #[.int .i64 sz', .int .i64 cut', .int .i64 len', .slice a2 bs.length c2] 32)).drew) :=
      hide ⟨(keepB hn5 (Nat.le_refl _) HB4.out).drew, heap_old (below_blk hb4 (heap_lt HS3.out) HS3.out) _, heap_last _ _, (HI3.out.below hb4).below hn5.drew, hI2.below hn5.drew⟩
    clear hb4 hI2 hn5 HB3 HB4 HI3 HS3 HBr
    unfold sigV
    have ez : (z == z) = true := by simp
    go_wp2_with fail
    clear d1 d1'
    generalize (w4.alloc (.cells #[.int .i64 sz', .int .i64 cut', .int .i64 len', .slice a2 bs.length c2] 32)) = w5 at *
    refine wp_region_h (ET w w2.heap.size w4.heap.size #[.int .i64 sz', .int .i64 cut', .int .i64 len', .slice a1 bs.length c1] #[.int .i64 sz', .int .i64 cut', .int .i64 len', .slice a2 bs.length c2] sz' cut' len' (.slice a1 bs.length c1) (.slice a2 bs.length c2) bs)
      [some (some (.int .i64 z)), some (some (.int .i64 z)), some (some (.bool true)), some (some (.bool true)), some (some (sigV sz' cut' len' (.slice a1 bs.length c1))), none, some (some (sigV sz' cut' len' (.slice a2 bs.length c2))), some none, some (some (.bool true)), some (some (.bool true))] [3, 3, 3, 3, 3, 0, 3, 0, 3, 3] (by kernel_rfl) (by kernel_rfl) [5] [5, 7] rfl rfl (by kernel_rfl) (by kernel_rfl) H0.out ?_
    refine gF_step (by rfl) (fun h u K hL hT hK => ?_) ?_
    · go_simp
      exact hK _ hT
    simp only [Act.put, List.setIfInBounds_toArray, List.set_cons_zero, List.set_cons_succ]
    refine gF_step (by rfl) (fun h u K hL hT hK => ?_) ?_
    · go_simp
      exact hK _ hT
    simp only [Act.put, List.setIfInBounds_toArray, List.set_cons_zero, List.set_cons_succ]
    refine gF_step (by rfl) (fun h u K hL hT hK => ?_) ?_
    · go_simp
      exact hK _ hT
    simp only [Act.put, List.setIfInBounds_toArray, List.set_cons_zero, List.set_cons_succ]
    refine gF_step (by rfl) (fun h u K hL hT hK => ?_) ?_
    · go_simp
      exact hK _ hT
    simp only [Act.put, List.setIfInBounds_toArray, List.set_cons_zero, List.set_cons_succ]
    refine gF_step (by rfl) (fun h u K hL hT hK => ?_) ?_
    · obtain ⟨r0, r1, r2, r3⟩ := Sig4.cells (T := 26) hT.base.2.1
      go_simp
      exact hK _ hT
    simp only [Act.put, List.setIfInBounds_toArray, List.set_cons_zero, List.set_cons_succ]
    refine gD_step (fun p => ∃ av cv, p = sigV sz' cut' len' (.slice av bs.length cv)) ⟨_, none, 0, rfl⟩ (by rfl) (fun u K hT hK => ?_) (fun p hp => ?_)
    · have hT0 : ET w w2.heap.size w4.heap.size #[.int .i64 sz', .int .i64 cut', .int .i64 len', .slice a1 bs.length c1] #[.int .i64 sz', .int .i64 cut', .int .i64 len', .slice a2 bs.length c2] sz' cut' len' (.slice a1 bs.length c1) (.slice a2 bs.length c2) bs [] u := hT
      go_simp
      go_at_call 19
      (with_reducible refine Calls.mono (plain_c u sz' cut' len' a1 bs.length c1 bs hT0.base.2.2.2.1 rfl (by omega)) ?_)
      rintro e u2 ⟨v, rfl, ho, hu⟩
      have his := ho.is
      obtain ⟨_, av, cv, rfl, _⟩ := ho.is
      exact hK _ _ ⟨av, cv, rfl⟩ ⟨ET.up hT0 hu, av, cv, rfl, his⟩
    obtain ⟨av, cv, rfl⟩ := hp
    simp only [Act.put, List.setIfInBounds_toArray, List.set_cons_zero, List.set_cons_succ]
    refine gF_step (by rfl) (fun h u K hL hT hK => ?_) ?_
    · obtain ⟨r0, r1, r2, r3⟩ := Sig4.cells (T := 32) hT.base.2.2.1
      go_simp
      exact hK _ hT
    simp only [Act.put, List.setIfInBounds_toArray, List.set_cons_zero, List.set_cons_succ]
    refine gG_step (v := .bool true) (by rfl) (fun h' u K hT hK => ?_) ?_
    · have hT1 : ∃ av' cv', sigV sz' cut' len' (.slice av bs.length cv) = sigV sz' cut' len' (.slice av' bs.length cv') ∧ IsBks .i64 u (.slice av' bs.length cv') bs := by
        match h', hT with
        | [], hT => exact hT.2
      obtain ⟨av', cv', e, hi⟩ := hT1
      have e' : av = av' ∧ cv = cv' := by
        unfold sigV at e
        simpa using e
      obtain ⟨rfl, rfl⟩ := e'
      have hb5 := hT.base.2.2.2.2
      have hsm := same_c u sz' cut' len' av a2 bs.length cv c2 bs hi hb5 rfl (by omega)
      unfold sigV at hsm ⊢
      go_simp
      go_at_call 18
      (with_reducible refine Calls.mono hsm ?_)
      rintro e u2 ⟨rfl, hu⟩
      exact hK _ (hT.up hu)
    simp only [Act.put, List.setIfInBounds_toArray, List.set_cons_zero, List.set_cons_succ]
    refine gF_step (by rfl) (fun h u K hL hT hK => ?_) ?_
    · go_simp
      exact hK _ hT
    simp only [Act.put, List.setIfInBounds_toArray, List.set_cons_zero, List.set_cons_succ]
    refine gF_step (by rfl) (fun h u K hL hT hK => ?_) ?_
    · go_simp
      exact hK _ hT
    simp only [Act.put, List.setIfInBounds_toArray, List.set_cons_zero, List.set_cons_succ]
    refine g_nil (fun w6 hT6 => ?_)
    have HB6 := hide hT6.base.1
    clear hT6 H0
    go_wp2
    go_ret
    exact ⟨rfl, HB6.out⟩
end Go.Proofs.YtheambpddpfcfaaDoor.BlockMakesW
/- Opening arguments: slices of bytes that came in. -/
namespace Go.Proofs.YtheambpddpfcfaaDoor.Sp
set_option linter.unusedVariables false
set_option linter.unusedSimpArgs false
set_option maxRecDepth 100000
open Go.RowKit
open Go.Proofs.YtheambpddpfcfaaDoor.Wu Go.Proofs.YtheambpddpfcfaaDoor.Sm Go.Proofs.YtheambpddpfcfaaDoor.Sh Go.Proofs.YtheambpddpfcfaaDoor.Sw0 Go.Proofs.YtheambpddpfcfaaDoor.So

theorem i64_bd {n : Int} (h : (Lit.int .i64 n).wf = true) : -9223372036854775808 ≤ n ∧ n ≤ 9223372036854775807 := by
  simp [Lit.wf, IntKind.min, IntKind.max, IntKind.signed, IntKind.bits] at h
  omega
theorem u8_bd {n : Int} (h : (Lit.int .u8 n).wf = true) : 0 ≤ n ∧ n < 256 := by
  simp [Lit.wf, IntKind.min, IntKind.max, IntKind.signed, IntKind.bits] at h
  omega
theorem src_of {w : World} {a : Option Addr} {len cap : Nat} {zs : List Int}
    (h : (a = none ∧ len = 0 ∧ cap = 0 ∧ zs = []) ∨
      ∃ x, a = some x ∧ len ≤ cap ∧ cap ≤ maxLen ∧ zs.length = cap ∧ (∀ i, i < zs.length → w.cell? (x.add i) = some (.int .u8 (zs.getD i 0))) ∧ ∀ n ∈ zs, (Lit.int .u8 n).wf = true) :
    ∃ L : List Nat, SrcB w a len L ∧ len ≤ cap := by
  rcases h with ⟨rfl, rfl, rfl, rfl⟩ | ⟨x, rfl, hl, hm, hz, hcell, hwz⟩
  · exact ⟨[], SrcB.nil w none, Nat.le_refl _⟩
  · by_cases h0 : len = 0
    · subst h0
      exact ⟨[], SrcB.nil w _, hl⟩
    · obtain ⟨b, off, spot⟩ := x
      have hc := hcell 0 (by omega)
      have hspot : spot = none := by simpa [Addr.add] using World.cell?_spot hc
      subst hspot
      have hget : ∀ i, i < len → zs.getD i 0 = ((((zs.take len).map Int.toNat).getD i 0 : Nat) : Int) := by
        intro i hi
        have hi' : i < zs.length := by omega
        have hb := u8_bd (hwz zs[i] (List.getElem_mem hi'))
        simp only [List.getD, List.getElem?_map, List.getElem?_take_of_lt hi, List.getElem?_eq_getElem hi', Option.map_some, Option.getD_some]
        omega
      refine ⟨(zs.take len).map Int.toNat, ⟨by rw [List.length_map, List.length_take]; omega, ?_, b, off, fun _ => rfl, fun i hi => ?_⟩, hl⟩
      · intro z hz'
        simp only [List.mem_map] at hz'
        obtain ⟨y, hy, rfl⟩ := hz'
        have hb := u8_bd (hwz y (List.mem_of_mem_take hy))
        omega
      · have := hcell i (by omega)
        rw [← hget i hi, ← this]
        congr 1
        unfold Addr.add
        split <;> simp_all
end Go.Proofs.YtheambpddpfcfaaDoor.Sp
/- A slice of bytes that came in, as bytes. -/
namespace Go.Proofs.YtheambpddpfcfaaDoor.Bo
set_option linter.unusedVariables false
set_option linter.unusedSimpArgs false
set_option maxRecDepth 100000
open Go.ChangeShapes Go.WideShapes Go.ChangeAt Go.RowKit
open Go.Proofs.YtheambpddpfcfaaDoor.Wu Go.Proofs.YtheambpddpfcfaaDoor.Sm Go.Proofs.YtheambpddpfcfaaDoor.Sh Go.Proofs.YtheambpddpfcfaaDoor.Ba
theorem u8_bd {z : Int} (h : (Lit.int .u8 z).wf = true) : 0 ≤ z ∧ z < 256 := by
  simp [Lit.wf, IntKind.min, IntKind.max, IntKind.signed, IntKind.bits] at h
  omega
theorem src_of_row {w : World} {a : Option Addr} {len cap : Nat} {zs : List Int} (h : (a = none ∧ len = 0 ∧ cap = 0 ∧ zs = []) ∨
      ∃ x, a = some x ∧ len ≤ cap ∧ cap ≤ maxLen ∧ zs.length = cap ∧ (∀ i, i < zs.length → w.cell? (x.add i) = some (.int .u8 (zs.getD i 0))) ∧ ∀ n ∈ zs, (Lit.int .u8 n).wf = true) :
    ∃ L : List Nat, SrcB w a len L ∧ len ≤ cap ∧ cap ≤ 9223372036854775807 ∧ (a = none → len = 0) := by
  rcases h with ⟨rfl, rfl, rfl, rfl⟩ | ⟨⟨b, off, spot⟩, rfl, hl, hm, hz, hcell, hwz⟩
  · exact ⟨[], SrcB.nil w none, Nat.le_refl _, by omega, fun _ => rfl⟩
  · unfold maxLen at hm
    refine ⟨(zs.take len).map Int.toNat, ⟨by simp; omega, ?_, b, off, fun h0 => ?_, fun i hi => ?_⟩, hl, by omega, fun h => by cases h⟩
    · intro x hx
      obtain ⟨z, hz1, rfl⟩ := List.mem_map.1 hx
      have := u8_bd (hwz z (List.mem_of_mem_take hz1))
      omega
    · have hc := hcell 0 (by omega)
      have hspot : spot = none := by simpa [Addr.add] using World.cell?_spot hc
      rw [hspot]
    · have hc0 := hcell 0 (by omega)
      have hspot : spot = none := by simpa [Addr.add] using World.cell?_spot hc0
      subst hspot
      have := hcell i (by omega)
      have e : (⟨b, off, none⟩ : Addr).add i = ⟨b, off + i, none⟩ := by
        by_cases h : i = 0
        · subst h; simp [Addr.add]
        · simp [Addr.add, h]
      rw [e] at this
      rw [this]
      have hi' : i < zs.length := by omega
      have hb := u8_bd (hwz zs[i] (List.getElem_mem hi'))
      have e2 : zs.getD i 0 = zs[i] := by simp [List.getD, hi']
      have e3 : ((zs.take len).map Int.toNat).getD i 0 = zs[i].toNat := by
        simp [List.getD, List.getElem?_take_of_lt hi, hi']
      rw [e2, e3]
      congr 2
      omega
end Go.Proofs.YtheambpddpfcfaaDoor.Bo
