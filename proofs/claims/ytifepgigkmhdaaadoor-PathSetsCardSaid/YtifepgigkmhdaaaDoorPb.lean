/- Several texts, one behind the other. -/
import Derived.Test.YtifepgigkmhdaaaDoorPa
import Derived.Laws.BytesArg
import Derived.StillTailTactics
import Derived.KernelRfl
import Derived.ChangeKeysEq
import Derived.Lib.SlBytesConst
/- Rows of bytes that are known whole: stored, loaded, returned. -/
namespace Go.Proofs.YtifepgigkmhdaaaDoor.Sv
set_option linter.unusedVariables false
set_option linter.unusedSimpArgs false
set_option maxRecDepth 100000
open Go.ChangeShapes Go.WideShapes Go.ChangeAt Go.RowKit
open Go.Proofs.YtifepgigkmhdaaaDoor.Wu Go.Proofs.YtifepgigkmhdaaaDoor.Sm Go.Proofs.YtifepgigkmhdaaaDoor.Sk Go.Proofs.YtifepgigkmhdaaaDoor.Sc Go.Proofs.YtifepgigkmhdaaaDoor.Sxa Go.Proofs.YtifepgigkmhdaaaDoor.Sh Go.Proofs.YtifepgigkmhdaaaDoor.Sn Go.Proofs.YtifepgigkmhdaaaDoor.Sw0 Go.Proofs.YtifepgigkmhdaaaDoor.Sx Go.Proofs.YtifepgigkmhdaaaDoor.Sw Go.Proofs.YtifepgigkmhdaaaDoor.Sb Go.Proofs.YtifepgigkmhdaaaDoor.Sf

theorem setCells_other {B k : Nat} (hk : k ≠ B) : ∀ (vs : List Value) (o : Nat) (w : World), (w.setCells B o vs).heap[k]? = w.heap[k]?
  | [], _, _ => rfl
  | v :: vs, o, w => by
    rw [World.setCells, setCells_other hk vs (o + 1)]
    exact Below.heap_setCell _ _ _ _ hk
theorem grown_setCells {B : Nat} : ∀ (vs : List Value) (o : Nat) (w : World), w.grownBy (w.setCells B o vs) (some B)
  | [], _, w => World.grownBy.refl w _
  | v :: vs, o, w => by
    rw [World.setCells]
    exact grown_trans (grown_setCell (World.grownBy.refl w (some B)) o v) (grown_setCells vs (o + 1) _)
theorem wpList_store_whole {P : Program} {ops : Array Oper} {rest : List Oper} {op : Oper} {a : Act} {w : World} {Q : Exit → Act → World → Prop} (hgd : op.guard = none) (ty : TypeId) (x y : Operand) (ho : op.op = .store ty x y)
    (b : Nat) (X Y : List Nat) (T : TypeId) (hx : a.eval x = .pointer (some ⟨b, 0, none⟩)) (hy : a.eval y = .agg (u8s X)) (hg : w.heap[b]? = some (.cells (u8s Y) T (0, 0))) (hl : X.length = Y.length)
    (hi : (P.info? ty).map (·.size) = some X.length)
    (h : ∀ w', Hid (w'.heap[b]? = some (.cells (u8s X) T (0, 0))) → Hid (w.grownBy w' (some b)) → Hid (wpList P ops Q rest (a.put op.dst undef) w')) : wpList P ops Q (op :: rest) a w :=
  wpList_store_mid hgd ty x y ho b 0 (u8s X) hx hy (by rw [u8s_size, hl]; exact there8 hg) (by rw [u8s_size]; exact hi) (u8s_one X) (h _ (set_all8 X Y hg hl) (grown_setCells _ _ _))
theorem wpList_load_whole {P : Program} {ops : Array Oper} {rest : List Oper} {op : Oper} {a : Act} {w : World} {Q : Exit → Act → World → Prop} (hgd : op.guard = none) (ty : TypeId) (x : Operand) (ho : op.op = .load ty x)
    (b : Nat) (X : List Nat) (T : TypeId) (f : Nat × Nat) (hx : a.eval x = .pointer (some ⟨b, 0, none⟩)) (hg : w.heap[b]? = some (.cells (u8s X) T f)) (d : TypeDesc)
    (hu : P.underlying ty = some d) (hd : d.isRow = true) (hi : (P.info? ty).map (·.size) = some X.length)
    (h : wpList P ops Q rest (a.put op.dst (.agg (u8s X))) w) : wpList P ops Q (op :: rest) a w := by
  refine wpList_load_mid hgd ty x ho b 0 hx (u8s X).toList d (range8_all hg) hu hd (by rw [Array.length_toList, u8s_size]; exact hi) ?_
  rw [Array.toArray_toList]
  exact h
theorem ret_whole {P : Program} {fn : Func} {p : Tmp} {ty : TypeId} {R : Ending → World → Prop} {a : Act} {w : World} (hr : fn.results = #[.cell p ty]) (b : Nat) (X : List Nat) (T : TypeId) (f : Nat × Nat) (hp : a.tmps.getD p undef = .pointer (some ⟨b, 0, none⟩))
    (hg : w.heap[b]? = some (.cells (u8s X) T f)) (d : TypeDesc) (hu : P.underlying ty = some d) (hd : d.isRow = true) (hi : (P.info? ty).map (·.size) = some X.length) (hde : a.defers = []) (h : R (.returned (.agg (u8s X))) w) : bodyPost P fn R .ret a w := by
  refine bodyPost_ret (v := .agg (u8s X)) ?_ hde h
  rw [results_one_cell hr, hp]
  have h4 := run_loadVar_mid (P := P) w b 0 ty (u8s X).toList d (range8_all hg) hu hd (by rw [Array.length_toList, u8s_size]; exact hi)
  rw [Array.toArray_toList] at h4
  simpa [asAddr] using h4
/-- A block other than the one that turned. -/
theorem keepG {w w' : World} {g k : Nat} {x : Obj} (h : w.grownBy w' (some g)) (hk : k ≠ g) (hx : w.heap[k]? = some x) : w'.heap[k]? = some x :=
  (h.block k (heap_lt hx) (fun e => hk (by injection e))).trans hx
theorem belowG {w0 w w' : World} {g N : Nat} (hb : Below N w0 w) (h : w.grownBy w' (some g)) (hN : N ≤ g) (hs : N ≤ w.heap.size) : Below N w0 w' :=
  hb.trans ⟨h.os, h.tape, h.output, h.size, fun k hk => h.block k (by omega) (fun e => by injection e with e; omega)⟩
end Go.Proofs.YtifepgigkmhdaaaDoor.Sv
/- Of: the sum of parts, one behind the other. -/
namespace Go.Proofs.YtifepgigkmhdaaaDoor.So
set_option linter.unusedVariables false
set_option linter.unusedSimpArgs false
set_option maxRecDepth 100000
open Go.ChangeShapes Go.WideShapes Go.ChangeAt Go.RowKit
open Go.Proofs.YtifepgigkmhdaaaDoor.Wu Go.Proofs.YtifepgigkmhdaaaDoor.Sm Go.Proofs.YtifepgigkmhdaaaDoor.Sk Go.Proofs.YtifepgigkmhdaaaDoor.Sc Go.Proofs.YtifepgigkmhdaaaDoor.Sxa Go.Proofs.YtifepgigkmhdaaaDoor.Sh Go.Proofs.YtifepgigkmhdaaaDoor.Sn Go.Proofs.YtifepgigkmhdaaaDoor.Sw0 Go.Proofs.YtifepgigkmhdaaaDoor.Sx Go.Proofs.YtifepgigkmhdaaaDoor.Sw Go.Proofs.YtifepgigkmhdaaaDoor.Sb Go.Proofs.YtifepgigkmhdaaaDoor.Sf

/-- A slice of m bytes L: nil, empty, or over cells that are there. -/
def SrcB (w : World) (a : Option Addr) (m : Nat) (L : List Nat) : Prop :=
  L.length = m ∧ All8 L ∧ ∃ b off, (0 < m → a = some ⟨b, off, none⟩) ∧ ∀ i, i < m → w.cell? ⟨b, off + i, none⟩ = some (.int .u8 ((L.getD i 0 : Nat) : Int))
theorem SrcB.nil (w : World) (a : Option Addr) : SrcB w a 0 [] := ⟨rfl, all8_nil, 0, 0, fun h => absurd h (by omega), fun i h => absurd h (by omega)⟩
theorem SrcB.below {w w' : World} {a : Option Addr} {m : Nat} {L : List Nat} (h : SrcB w a m L) (hb : Below w.heap.size w w') : SrcB w' a m L := by
  obtain ⟨h1, h2, b, off, h3, h4⟩ := h
  exact ⟨h1, h2, b, off, h3, fun i hi => keepC hb (Nat.le_refl _) (h4 i hi)⟩
/-- Read in a world that has grown, by a hasher that is new. -/
theorem SrcB.srcN {w w' : World} {a : Option Addr} {m : Nat} {L : List Nat} {g : Nat} (h : SrcB w a m L) (hb : Below w.heap.size w w') (hg : w.heap.size ≤ g) : SrcN w' g a m L := by
  obtain ⟨h1, h2, b, off, h3, h4⟩ := h
  refine ⟨h1, h2, b, off, h3, fun hm => ?_, fun i hi => keepC hb (Nat.le_refl _) (h4 i hi)⟩
  have hl : b < w.heap.size := cell_lt (h4 0 hm)
  omega
/-- A part: where it lies, how many bytes, the capacity, its bytes. -/
structure Part where
  a : Option Addr
  n : Nat
  c : Nat
  L : List Nat
def Part.val (p : Part) : Value := .slice p.a p.n p.c
def Part.ok (w : World) (p : Part) : Prop := SrcB w p.a p.n p.L ∧ p.n ≤ p.c
def flat : List Part → List Nat
  | [] => []
  | p :: ps => p.L ++ flat ps
theorem flat_append (X Y : List Part) : flat (X ++ Y) = flat X ++ flat Y := by
  induction X with
  | nil => rfl
  | cons p ps ih => simp [flat, ih]
theorem flat_snoc (X : List Part) (p : Part) : flat (X ++ [p]) = flat X ++ p.L := by rw [flat_append]; simp [flat]
/-- A slice of parts. -/
def Parts (w : World) (A : Option Addr) (Ps : List Part) : Prop :=
  ∃ b off, (0 < Ps.length → A = some ⟨b, off, none⟩) ∧ ∀ i p, Ps[i]? = some p → w.cell? ⟨b, off + i, none⟩ = some p.val ∧ p.ok w
theorem flat_all {w : World} {A : Option Addr} {Ps : List Part} (h : Parts w A Ps) : All8 (flat Ps) := by
  obtain ⟨b, off, _, h2⟩ := h
  have : ∀ (X : List Part), (∀ p ∈ X, All8 p.L) → All8 (flat X) := by
    intro X
    induction X with
    | nil => intro _; exact all8_nil
    | cons p ps ih => intro hX; exact all8_append (hX p (List.mem_cons_self ..)) (ih fun q hq => hX q (List.mem_cons_of_mem _ hq))
  refine this Ps fun p hp => ?_
  obtain ⟨i, hi, e⟩ := List.mem_iff_getElem.1 hp
  exact (h2 i p (by rw [List.getElem?_eq_getElem hi, e])).2.1.2.1
theorem flat_take_le (Ps : List Part) (k : Nat) : (flat (Ps.take k)).length ≤ (flat Ps).length := by
  have e : flat Ps = flat (Ps.take k) ++ flat (Ps.drop k) := by rw [← flat_append, List.take_append_drop]
  rw [e, List.length_append]; omega
theorem took_nil {w : World} {g : Nat} (h : Hsh w g H0 (zeros 64) 0 0) : Took w g [] := ⟨zeros 64, zeros_length _, all8_zeros 64, rfl, h⟩
theorem Took.below {w w' : World} {g N : Nat} {M : List Nat} (h : Took w g M) (hb : Below N w w') (hg : g < N) : Took w' g M := by
  obtain ⟨B, h1, h2, h3, h4⟩ := h
  exact ⟨B, h1, h2, h3, below_blk hb hg h4⟩
theorem grown_is_below {w w' : World} {g N : Nat} (h : w.grownBy w' (some g)) (hN : N ≤ g) (hs : N ≤ w.heap.size) : Below N w w' :=
  ⟨h.os, h.tape, h.output, h.size, fun k hk => h.block k (by omega) (fun e => by injection e with e; omega)⟩
/-- A sum laid into a new cell of its own. -/
theorem sum_stored (w1 : World) (X : List Nat) (hX : X.length = 32) :
    ((w1.alloc (.cells (u8s (zeros 32)) 79)).setCells w1.heap.size 0 (u8s X).toList).heap[w1.heap.size]? = some (.cells (u8s X) 79 (0, 0)) ∧
    Below w1.heap.size w1 ((w1.alloc (.cells (u8s (zeros 32)) 79)).setCells w1.heap.size 0 (u8s X).toList) :=
  ⟨set_all8 X (zeros 32) (heap_last w1 _) hX, below_setCells _ _ _ _ (below_new _ _) (Nat.le_refl _)⟩
set_option maxHeartbeats 1600000 in
set_option maxRecDepth 100000 in
theorem of_c (A : Option Addr) (cap : Nat) (Ps : List Part) (w : World) (hP : Parts w A Ps) (hT : Tbl w) (hF : Fst w) (hbig : (flat Ps).length ≤ 140737488355328) (hn : Ps.length < 4611686018427387904) :
    Calls Tryd.prog 89 #[.slice A Ps.length cap] w fun e w' => e = .returned (.agg (u8s (sha (flat Ps)))) ∧ Below w.heap.size w w' := by
  have Hall := hide (flat_all hP)
  obtain ⟨b, off, hA, hp⟩ := hP
  have HA := hide hA
  have HP := hide hp
  have HT := hide hT
  have HF := hide hF
  have HFa := hide (fst_keep hF (below_new w (.cells (u8s (zeros 32)) 79)) (Nat.le_refl _))
  have hg1 := tbl_lt hT
  clear hA hp hT hF
  go_enter Tryd.func89, Tryd.ntmps89
  go_wp2_with fail
  rw [zlit8]
  have Hb0 := hide (below_new w (.cells (u8s (zeros 32)) 79))
  have HR0 := hide (heap_last w (.cells (u8s (zeros 32)) 79))
  generalize (w.alloc (.cells (u8s (zeros 32)) 79)) = w0 at *
  refine (newHasher_c w0 HFa.out).mono ?_
  rintro e w1 ⟨rfl, hb1⟩
  have HB1 := hide (keepB hb1 (Nat.le_refl _) Hb0.out)
  have HR1 := hide (below_blk hb1 (heap_lt HR0.out) HR0.out)
  clear hb1 Hb0 HR0 HFa
  have hs1 := heap_lt HR1.out
  have Hz := hide (heap_last w1 (.cells (hcells Z8 (zeros 64) 0 0).toArray 196))
  have hzz := fun v : World => zeroH v
  go_wp2_with (refine wpList_store_mid rfl 196 (.tmp 3) (.tmp 6) rfl w1.heap.size 0 _ rfl rfl ?_ ?_ ?_ ?_)
  · have := there_cells Hz.out
    exact this
  · rw [info74]; rfl
  · exact hcells_one _ _ _ _
  have h3 := blk_setCells (hcells H0 (zeros 64) 0 0) 0 (w1.alloc (.cells (hcells Z8 (zeros 64) 0 0).toArray 196)) (hcells Z8 (zeros 64) 0 0) (by rw [hcells_length, hcells_length]; omega) Hz.out
  rw [show (hcells Z8 (zeros 64) 0 0).take 0 ++ hcells H0 (zeros 64) 0 0 ++ (hcells Z8 (zeros 64) 0 0).drop (0 + (hcells H0 (zeros 64) 0 0).length) = hcells H0 (zeros 64) 0 0 from rfl] at h3
  have Hb2 : Hid (Below w1.heap.size w1 ((w1.alloc (.cells (hcells Z8 (zeros 64) 0 0).toArray 196)).setCells w1.heap.size 0 (hcells H0 (zeros 64) 0 0))) := below_setCells _ _ _ _ (below_new _ _) (Nat.le_refl _)
  have HTk := hide (took_nil h3)
  have HB2 := hide (keepB Hb2.out (Nat.le_refl _) HB1.out)
  have HR2 := hide (below_blk Hb2.out hs1 HR1.out)
  clear h3 Hb2 HB1 HR1 Hz hzz
  generalize ((w1.alloc (.cells (hcells Z8 (zeros 64) 0 0).toArray 196)).setCells w1.heap.size 0 (hcells H0 (zeros 64) 0 0)) = w2 at *
  generalize w1.heap.size = G at *
  as_aux_lemma =>
    go_loopw [9, 5] (fun i _ wr => ∃ k : Nat, k ≤ Ps.length ∧ i = .int .i64 k ∧ Took wr G (flat (Ps.take k)) ∧ wr.heap[w.heap.size]? = some (.cells (u8s (zeros 32)) 79 (0, 0)) ∧ Below w.heap.size w wr) (fun i _ _ => Ps.length - (intOf i).toNat)
    case atStart => exact ⟨0, by omega, rfl, HTk.out, HR2.out, HB2.out⟩
    case round =>
      clear HTk HR2 HB2
      obtain ⟨k, hk, rfl, h1, h2, h3⟩ := hrel
      have H1 := hide h1
      have H2 := hide h2
      have HB := hide h3
      have HTw := hide (tbl_keep HT.out h3 (Nat.le_refl _))
      clear h1 h2 h3
      by_cases hlt : k < Ps.length
      · obtain ⟨p, hpk⟩ : ∃ p, Ps[k]? = some p := ⟨Ps[k], List.getElem?_eq_getElem hlt⟩
        obtain ⟨hc, hsrc, hpc⟩ := HP.out k p hpk
        have hcw : wr.cell? ⟨b, off + k, none⟩ = some (.slice p.a p.n p.c) := keepC HB.out (Nat.le_refl _) hc
        obtain rfl := HA.out (by omega)
        have HSn := hide (hsrc.srcN (g := G) HB.out (by omega))
        have Hf : Hid (flat (Ps.take (k + 1)) = flat (Ps.take k) ++ p.L) := by
          show _ = _
          rw [← flat_snoc, List.take_add_one, hpk]; rfl
        have hlen := flat_take_le Ps (k + 1)
        rw [Hf.out, List.length_append, hsrc.1] at hlen
        have hd : decide ((k : Int) < (Ps.length : Int)) = true := by simp; omega
        clear hpk hc hsrc
        go_wp2_with fail
        refine (write_c G _ _ p.n p.c p.L wr H1.out HTw.out HSn.out hpc (by omega) (by omega)).mono ?_
        rintro e w3 ⟨rfl, hT3, hG3⟩
        have HT3 := hide hT3
        have Hb3 := hide (grown_is_below hG3 (N := w.heap.size) (by omega) HB.out.size)
        have H23 := hide ((hG3.block _ (heap_lt H2.out) (fun e => by injection e; omega)).trans H2.out)
        clear hT3 hG3 hcw
        go_wp2
        go_roundw
        case rel => exact ⟨k + 1, by omega, by go_num, by rw [Hf.out]; exact HT3.out, H23.out, HB.out.trans Hb3.out⟩
        case measure => simp [intOf]; omega
      · have hkl : k = Ps.length := by omega
        subst hkl
        have hd : decide ((Ps.length : Int) < (Ps.length : Int)) = false := by simp
        have H1' := H1.out
        rw [List.take_length] at H1'
        have HTK := hide H1'
        clear H1 H1'
        go_wp2_with fail
        refine (finish_c G (flat Ps) wr HTK.out HTw.out Hall.out (by omega) hbig).mono ?_
        rintro e w3 ⟨rfl, hG3⟩
        have Hb3 := hide (grown_is_below hG3 (N := w.heap.size) (by omega) HB.out.size)
        have H23 := hide ((hG3.block _ (heap_lt H2.out) (fun e => by injection e; omega)).trans H2.out)
        have HB3 := hide (HB.out.trans Hb3.out)
        clear hG3 Hb3
        obtain ⟨X, hX⟩ : ∃ X, X = sha (flat Ps) := ⟨_, rfl⟩
        have HX := hide hX
        have hXl : X.length = 32 := by rw [hX]; rfl
        rw [← hX]
        clear hX
        have HXl := hide hXl
        clear hXl
        have ht := hide (there8 H23.out)
        go_wp2_with (refine wpList_store_mid rfl 79 (.tmp 2) (.tmp 16) rfl w.heap.size 0 _ rfl rfl ?_ ?_ ?_ ?_)
        · rw [u8s_size, HXl.out]; exact ht.out
        · rw [infoS, u8s_size, HXl.out]
        · exact u8s_one _
        have e := set_all8 X (zeros 32) H23.out HXl.out
        have hb : Below w.heap.size w (w3.setCells w.heap.size 0 (u8s X).toList) := below_setCells _ _ _ _ HB3.out (Nat.le_refl _)
        go_wp2_with fail
        refine bodyPost_ret (v := .agg (u8s X)) ?_ rfl ⟨by rw [HX.out], hb⟩
        rw [results_one_cell Tryd.results89]
        have h4 := run_loadVar_mid (P := Tryd.prog) (w3.setCells w.heap.size 0 (u8s X).toList) w.heap.size 0 79 (u8s X).toList _ (range8_all e) Tryd.underlying79 rfl (by rw [infoS]; simp [u8s_size, HXl.out])
        rw [Array.toArray_toList] at h4
        simpa [asAddr, Act.put] using h4
end Go.Proofs.YtifepgigkmhdaaaDoor.So
/- Cut: the sum's first bytes. -/
namespace Go.Proofs.YtifepgigkmhdaaaDoor.Su
set_option linter.unusedVariables false
set_option linter.unusedSimpArgs false
set_option maxRecDepth 100000
open Go.ChangeShapes Go.WideShapes Go.ChangeAt Go.RowKit
open Go.Proofs.YtifepgigkmhdaaaDoor.Wu Go.Proofs.YtifepgigkmhdaaaDoor.Sm Go.Proofs.YtifepgigkmhdaaaDoor.Sk Go.Proofs.YtifepgigkmhdaaaDoor.Sc Go.Proofs.YtifepgigkmhdaaaDoor.Sxa Go.Proofs.YtifepgigkmhdaaaDoor.Sh Go.Proofs.YtifepgigkmhdaaaDoor.Sn Go.Proofs.YtifepgigkmhdaaaDoor.Sw0 Go.Proofs.YtifepgigkmhdaaaDoor.Sx Go.Proofs.YtifepgigkmhdaaaDoor.Sw Go.Proofs.YtifepgigkmhdaaaDoor.Sb Go.Proofs.YtifepgigkmhdaaaDoor.Sf Go.Proofs.YtifepgigkmhdaaaDoor.So

/-- The first k bytes, noughts behind them. -/
def cutL (k : Nat) (X : List Nat) : List Nat := X.take k ++ zeros (32 - k)
/-- The number of bytes that count. -/
def Cnt (n : Int) (k : Nat) : Prop := (n ≤ 0 ∧ k = 0) ∨ (0 < n ∧ n ≤ 32 ∧ n = (k : Int)) ∨ (32 < n ∧ k = 32)
theorem parts_one {w : World} {B : Nat} {T : TypeId} {a : Option Addr} {m c : Nat} {L : List Nat} (hs : SrcB w a m L) (hc : m ≤ c) (hw : w.heap[B]? = some (.cells #[.slice a m c] T (0, 0))) :
    Parts w (some ⟨B, 0, none⟩) [⟨a, m, c, L⟩] := by
  refine ⟨B, 0, fun _ => rfl, fun i p hp => ?_⟩
  match i, hp with
  | 0, hp =>
    simp only [List.getElem?_cons_zero, Option.some.injEq] at hp
    subst hp
    exact ⟨blk_cell hw rfl, hs, hc⟩
theorem flat_one (a : Option Addr) (m c : Nat) (L : List Nat) : flat [⟨a, m, c, L⟩] = L := by simp [flat]
theorem sliceAllS (u : World) (B : Nat) :
    Sem.run Tryd.prog (Instr.sliceAt 79 (.pointer (some ⟨B, 0, none⟩)) none none none) u = .ok (.slice (some ⟨B, 0, none⟩) 32 32) u := by
  rw [run_sliceAt_array_all u 79 ⟨B, 0, none⟩ (by rw [alenS, aelemS]; exact Tryd.underlying79), aelemS, size_u8, alenS]
  simp only [Result.andThen, slicedAt, Nat.mul_one]
  rw [if_neg (by omega), Addr.add_mid]
theorem sliceHS (u : World) (B k : Nat) (l : Int) (hl : l = (k : Int)) (hk : k ≤ 32) :
    Sem.run Tryd.prog (Instr.sliceAt 79 (.pointer (some ⟨B, 0, none⟩)) none (some (.int .i64 l)) none) u = .ok (.slice (some ⟨B, 0, none⟩) k 32) u := by
  subst hl
  rw [run_sliceAt_array_h u 79 ⟨B, 0, none⟩ (by rw [alenS, aelemS]; exact Tryd.underlying79) .i64 _ (by omega) (by rw [alenS]; omega), aelemS, size_u8, alenS]
  simp only [Result.andThen, slicedAt, Int.toNat_natCast, Nat.mul_one]
  rw [if_neg (by omega), Addr.add_mid]
  simp
theorem cnt_is {n : Int} {k : Nat} (h : Cnt n k) : (if 32 < (if n < 0 then 0 else n) then 32 else if n < 0 then 0 else n) = (k : Int) ∧ k ≤ 32 := by
  unfold Cnt at h
  split <;> split <;> omega
theorem cutL_is (k : Nat) (X : List Nat) (hk : k ≤ 32) (hX : X.length = 32) : ((u8s (zeros 32)).toList.take 0 ++ (b8 (X.take k) ++ (u8s (zeros 32)).toList.drop (0 + (b8 (X.take k)).length))).toArray = u8s (cutL k X) := by
  rw [b8_length, List.length_take, hX, Nat.min_eq_left hk, List.take_zero, List.nil_append, Nat.zero_add, u8s_list, u8s_b8]
  have e : (b8 (zeros 32)).drop k = b8 (zeros (32 - k)) := by unfold b8 zeros; rw [← List.map_drop, List.drop_replicate]
  rw [e]
  unfold cutL b8
  rw [List.map_append]
theorem cutL_length (k : Nat) (X : List Nat) (hk : k ≤ 32) (hX : X.length = 32) : (cutL k X).length = 32 := by simp [cutL, zeros, hX]; omega
set_option maxHeartbeats 1600000 in
set_option maxRecDepth 100000 in
theorem cut_c (n : Int) (k : Nat) (a : Option Addr) (m c : Nat) (L : List Nat) (w : World) (hk : Cnt n k) (hs : SrcB w a m L) (hc : m ≤ c) (hT : Tbl w) (hF : Fst w) (hbig : m ≤ 140737488355328) :
    Calls Tryd.prog 63 #[.int .i64 n, .slice a m c] w fun e w' => e = .returned (.agg (u8s (cutL k (sha L)))) ∧ Below w.heap.size w w' := by
  have HS := hide hs
  have HT := hide hT
  have HF := hide hF
  have hl := hs.1
  have HL := hide hl
  have HR0 := hide (heap_2a w (.cells (u8s (zeros 32)) 79) (.cells #[.slice a m c] 22))
  have HP0 := hide (heap_2b w (.cells (u8s (zeros 32)) 79) (.cells #[.slice a m c] 22))
  have HB0 := hide (((Below.refl w.heap.size w).alloc (Nat.le_refl _) (.cells (u8s (zeros 32)) 79)).alloc (by simp) (.cells #[.slice a m c] 22))
  clear hs hT hF hl
  go_enter Tryd.func63, Tryd.ntmps63
  go_wp2_with fail
  rw [zlit8]
  generalize ((w.alloc (.cells (u8s (zeros 32)) 79)).alloc (.cells #[.slice a m c] 22)) = w0 at *
  have HPs := hide (parts_one (HS.out.below HB0.out) hc HP0.out)
  refine (of_c _ _ _ w0 HPs.out (tbl_keep HT.out HB0.out (Nat.le_refl _)) (fst_keep HF.out HB0.out (Nat.le_refl _)) (by rw [flat_one, HL.out]; exact hbig) (by simp)).mono ?_
  rintro e w1 ⟨rfl, hb1⟩
  rw [flat_one]
  obtain ⟨X, hX⟩ : ∃ X, X = sha L := ⟨_, rfl⟩
  have hXl : X.length = 32 := by rw [hX]; rfl
  have HX := hide hX
  rw [← hX]
  clear hX
  have HXl := hide hXl
  clear hXl
  have HR1 := hide (below_blk hb1 (heap_lt HR0.out) HR0.out)
  have HB1 := hide (keepB hb1 (Nat.le_refl _) HB0.out)
  have hz1 := heap_lt HR1.out
  have Hz := hide (heap_last w1 (.cells (u8s (zeros 32)) 79))
  have HSt := hide (sum_stored w1 X HXl.out)
  clear hb1 HB0 HR0 HP0 HPs
  go_wp2_with (refine wpList_store_mid rfl 79 (.tmp 5) (.tmp 9) rfl w1.heap.size 0 _ rfl rfl ?_ ?_ ?_ ?_)
  · rw [u8s_size, HXl.out, zlit8]; exact there8 Hz.out
  · rw [infoS, u8s_size, HXl.out]
  · exact u8s_one _
  rw [zlit8]
  have HR2 := hide (below_blk HSt.out.2 hz1 HR1.out)
  have HB2 := hide (keepB HSt.out.2 (Nat.le_refl _) HB1.out)
  have HW2 := hide HSt.out.1
  clear HSt Hz HR1 HB1
  generalize ((w1.alloc (.cells (u8s (zeros 32)) 79)).setCells w1.heap.size 0 (u8s X).toList) = w2 at *
  generalize w1.heap.size = WB at *
  have HW3 := hide (heap_old HW2.out (.cells (u8s (zeros 32)) 79))
  have HR3 := hide (heap_old HR2.out (.cells (u8s (zeros 32)) 79))
  have HS3 := hide (heap_last w2 (.cells (u8s (zeros 32)) 79))
  have HB3 := hide (HB2.out.alloc HB2.out.size (.cells (u8s (zeros 32)) 79))
  have hz2 := heap_lt HW2.out
  clear HW2 HR2 HB2
  focus
    generalize (w2.alloc (.cells (u8s (zeros 32)) 79)) = w3 at *
    generalize w2.heap.size = SB at *
    have hsa := fun v : World => sliceAllS v SB
    have HK := hide (cnt_is hk)
    have hk32 := HK.out.2
    clear hk
    have hs0 := fun v : World => sliceHS v WB k _ HK.out.1 hk32
    go_wp2_with fail
    go_still_tail 5, (by kernel_rfl)
    refine wpList_copy_own rfl (.tmp 10) (.tmp 14) 22 22 rfl 5 Tryd.underlying22 info_u8s SB 0 32 32 ⟨WB, 0, none⟩ k 32 rfl rfl (u8s (zeros 32)) 79 HS3.out (b8 (X.take k)) ?_ ?_ ?_ (b8_one _) ?_
    · rw [b8_length, List.length_take, HXl.out]
    · intro j v hv
      obtain ⟨hj, rfl⟩ := b8_at hv
      rw [List.length_take, HXl.out] at hj
      rw [Addr.add_mid, Nat.zero_add]
      show w3.drew.cell? _ = _
      rw [row8 (w := w3.drew) (i := j) HW3.out (by rw [HXl.out]; omega)]
      congr 3
      simp [List.getD, List.getElem?_take_of_lt (show j < k by omega)]
    · rw [b8_length, List.length_take, HXl.out, u8s_size, zeros_length]; omega
    rw [cutL_is k X hk32 HXl.out]
    have H6 := hide (setRow_heap w3.drew SB _ (u8s (cutL k X)) _ _ HS3.out)
    have HR6 : Hid ((w3.drew.setRow SB (u8s (cutL k X))).heap[w.heap.size]? = some (.cells (u8s (zeros 32)) 79 (0, 0))) := (setRow_other w3.drew SB _ _ (by omega)).trans HR3.out
    have HB6 := hide (below_setRow (g := SB) HB3.out.drew (by omega) (u8s (cutL k X)))
    have HC := hide (cutL_length k X hk32 HXl.out)
    clear hs0 hsa HS3 HR3 HB3 HW3
    show wpList _ _ _ _ (Act.put _ _ (goInt (b8 (X.take k)).length)) (w3.drew.setRow SB (u8s (cutL k X)))
    generalize (w3.drew.setRow SB (u8s (cutL k X))) = w6 at *
    have HX' : Hid (cutL k (sha L) = cutL k X) := by show _ = _; rw [HX.out]
    generalize cutL k X = Y at *
    have hr := hide (range8_all H6.out)
    have ht := hide (there8 HR6.out)
    have Hsz : Hid ((u8s Y).toList.length = 32) := by show _ = _; simp [u8s_size, HC.out]
    have Hs2 : Hid ((u8s Y).toList.toArray.size = 32) := by show _ = _; rw [Array.toArray_toList, u8s_size, HC.out]
    go_wp2_with (first
      | (refine wpList_load_mid rfl 79 (.tmp 6) rfl SB 0 rfl _ _ hr.out Tryd.underlying79 rfl (by rw [infoS, Hsz.out]) ?_)
      | (refine wpList_store_mid rfl 79 (.tmp 4) (.tmp 16) rfl w.heap.size 0 _ rfl rfl ?_ ?_ ?_ ?_))
    · rw [Hs2.out]; exact ht.out
    · rw [infoS, Hs2.out]
    · rw [Array.toArray_toList]; exact u8s_one _
    all_goals
      rw [Array.toArray_toList]
      have e := set_all8 Y (zeros 32) HR6.out HC.out
      have hb : Below w.heap.size w (w6.setCells w.heap.size 0 (u8s Y).toList) := below_setCells _ _ _ _ HB6.out (Nat.le_refl _)
      refine bodyPost_ret (v := .agg (u8s Y)) ?_ rfl ⟨by rw [HX'.out], hb⟩
      rw [results_one_cell Tryd.results63]
      have h4 := run_loadVar_mid (P := Tryd.prog) (w6.setCells w.heap.size 0 (u8s Y).toList) w.heap.size 0 79 (u8s Y).toList _ (range8_all e) Tryd.underlying79 rfl (by rw [infoS, Hsz.out])
      rw [Array.toArray_toList] at h4
      simpa [asAddr, Act.put] using h4
end Go.Proofs.YtifepgigkmhdaaaDoor.Su
/- Text: a sum's digits. -/
namespace Go.Proofs.YtifepgigkmhdaaaDoor.St
set_option linter.unusedVariables false
set_option linter.unusedSimpArgs false
set_option maxRecDepth 100000
open Go.ChangeShapes Go.WideShapes Go.ChangeAt Go.RowKit
open Go.Proofs.YtifepgigkmhdaaaDoor.Wu Go.Proofs.YtifepgigkmhdaaaDoor.Sm Go.Proofs.YtifepgigkmhdaaaDoor.Sk Go.Proofs.YtifepgigkmhdaaaDoor.Sc Go.Proofs.YtifepgigkmhdaaaDoor.Sxa Go.Proofs.YtifepgigkmhdaaaDoor.Sh Go.Proofs.YtifepgigkmhdaaaDoor.Sn Go.Proofs.YtifepgigkmhdaaaDoor.Sw0 Go.Proofs.YtifepgigkmhdaaaDoor.Sx Go.Proofs.YtifepgigkmhdaaaDoor.Sw Go.Proofs.YtifepgigkmhdaaaDoor.Sb Go.Proofs.YtifepgigkmhdaaaDoor.Sf Go.Proofs.YtifepgigkmhdaaaDoor.So

/-- A text of bytes. -/
def strN (L : List Nat) : ByteArray := strOfNums (L.map fun x : Nat => (x : Int))
/-- A digit to the base sixteen. -/
def dg (d : Nat) : Nat := [48, 49, 50, 51, 52, 53, 54, 55, 56, 57, 97, 98, 99, 100, 101, 102].getD d 0
def textL (X : List Nat) : List Nat := X.flatMap fun x => [dg (x / 16), dg (x % 16)]
theorem dg_lt (d : Nat) : dg d < 256 := by
  unfold dg
  by_cases h : d < 16
  · have : ∀ d : Fin 16, [48, 49, 50, 51, 52, 53, 54, 55, 56, 57, 97, 98, 99, 100, 101, 102].getD d.1 0 < 256 := by decide
    exact this ⟨d, h⟩
  · rw [List.getD, List.getElem?_eq_none (by simp; omega)]; decide
theorem hex_at (d : Nat) (hd : d < 16) (u : World) : Sem.run Tryd.prog (Instr.index 9 (.string ⟨#[48, 49, 50, 51, 52, 53, 54, 55, 56, 57, 97, 98, 99, 100, 101, 102]⟩) (.int .u8 (d : Int))) u = .ok (.int .u8 (dg d : Int)) u := by
  have h : d = 0 ∨ d = 1 ∨ d = 2 ∨ d = 3 ∨ d = 4 ∨ d = 5 ∨ d = 6 ∨ d = 7 ∨ d = 8 ∨ d = 9 ∨ d = 10 ∨ d = 11 ∨ d = 12 ∨ d = 13 ∨ d = 14 ∨ d = 15 := by omega
  rcases h with rfl | rfl | rfl | rfl | rfl | rfl | rfl | rfl | rfl | rfl | rfl | rfl | rfl | rfl | rfl | rfl <;> (show _ = _; kernel_rfl)
theorem hex_get (d : Nat) (h : d < (ByteArray.mk #[48, 49, 50, 51, 52, 53, 54, 55, 56, 57, 97, 98, 99, 100, 101, 102]).size) : (ByteArray.mk #[48, 49, 50, 51, 52, 53, 54, 55, 56, 57, 97, 98, 99, 100, 101, 102])[d].toNat = dg d := by
  have h16 : d < 16 := h
  have : ∀ d : Fin 16, (ByteArray.mk #[48, 49, 50, 51, 52, 53, 54, 55, 56, 57, 97, 98, 99, 100, 101, 102])[d.1].toNat = dg d.1 := by decide
  exact this ⟨d, h16⟩
theorem alS : Tryd.prog.underlying 79 = some (.array 32 5) := Tryd.underlying79
theorem index_rowS (X : List Nat) (k : Nat) (hX : X.length = 32) (hk : k < 32) (u : World) : Sem.run Tryd.prog (Instr.index 79 (.agg (u8s X)) (.int .i64 (k : Int))) u = .ok (.int .u8 ((X.getD k 0 : Nat) : Int)) u := by
  simp only [Instr.index, Sem.run_bind, asIntOf, Sem.run_pure, Result.andThen_ok, run_underlying alS]
  rw [if_pos (by omega)]
  simp only [Sem.run_bind, size_u8, Result.andThen_ok, Int.toNat_natCast, Nat.mul_one]
  have e : (u8s X)[k]? = some (.int .u8 ((X.getD k 0 : Nat) : Int)) := u8s_at X k (by omega)
  simp [part, e, size_u8, go_sem]
/-- The row behind k bytes. -/
def textR (X : List Nat) (k : Nat) : List Nat := textL (X.take k) ++ zeros (64 - 2 * k)
theorem textL_length (X : List Nat) : (textL X).length = 2 * X.length := by
  induction X with
  | nil => rfl
  | cons x l ih => simp only [textL, List.flatMap_cons, List.length_append, List.length_cons, List.length_nil] at *; omega
theorem textR_length (X : List Nat) (k : Nat) (hX : X.length = 32) (hk : k ≤ 32) : (textR X k).length = 64 := by
  rw [textR, List.length_append, textL_length, List.length_take, hX, zeros_length]; omega
theorem textR_step (X : List Nat) (k : Nat) (hX : X.length = 32) (hk : k < 32) : ((textR X k).set (2 * k) (dg (X.getD k 0 / 16))).set (2 * k + 1) (dg (X.getD k 0 % 16)) = textR X (k + 1) := by
  have h1 : (textL (X.take k)).length = 2 * k := by rw [textL_length, List.length_take, hX]; omega
  have e1 : X.take (k + 1) = X.take k ++ [X.getD k 0] := by
    rw [List.take_succ_eq_append_getElem (by omega)]; simp [List.getD, show k < X.length by omega]
  have e2 : textL (X.take (k + 1)) = textL (X.take k) ++ [dg (X.getD k 0 / 16), dg (X.getD k 0 % 16)] := by rw [e1]; simp [textL]
  have e3 : zeros (64 - 2 * k) = 0 :: 0 :: zeros (64 - 2 * (k + 1)) := by
    rw [show 64 - 2 * k = (64 - 2 * (k + 1)) + 1 + 1 by omega]; rfl
  unfold textR
  rw [e2, e3, List.set_append_right _ _ (by omega), h1, Nat.sub_self, List.set_cons_zero, List.set_append_right _ _ (by omega), h1, show 2 * k + 1 - 2 * k = 1 by omega]
  simp
theorem textR_end (X : List Nat) (hX : X.length = 32) : textR X 32 = textL X := by
  unfold textR; rw [List.take_of_length_le (by omega)]; simp [zeros]
theorem sliceAll64 (u : World) (B : Nat) :
    Sem.run Tryd.prog (Instr.sliceAt 190 (.pointer (some ⟨B, 0, none⟩)) none none none) u = .ok (.slice (some ⟨B, 0, none⟩) 64 64) u := by
  rw [run_sliceAt_array_all u 190 ⟨B, 0, none⟩ (by rw [alen64, aelem64]; exact Tryd.underlying190), aelem64, size_u8, alen64]
  simp only [Result.andThen, slicedAt, Nat.mul_one]
  rw [if_neg (by omega), Addr.add_mid]
theorem conv_row {w : World} {B off n cap : Nat} {L : List Nat} (hl : L.length = n) (hc : ∀ i, i < n → w.cell? ⟨B, off + i, none⟩ = some (.int .u8 ((L.getD i 0 : Nat) : Int))) :
    Sem.run Tryd.prog (convert 22 9 (.slice (some ⟨B, off, none⟩) n cap)) w = .ok (.string (strN L)) w :=
  run_convert_bytes_arg w 22 5 Tryd.underlying22 Tryd.underlying5 B off n cap (L.map fun x : Nat => (x : Int)) (by simp [hl]) (fun i hi => by
    rw [hc i hi]; simp [List.getD, List.getElem?_eq_getElem (show i < L.length by omega)]) 9 Tryd.underlying9
theorem zlit64 : (#[Value.int IntKind.u8 0, Value.int IntKind.u8 0, Value.int IntKind.u8 0, Value.int IntKind.u8 0, Value.int IntKind.u8 0, Value.int IntKind.u8 0, Value.int IntKind.u8 0, Value.int IntKind.u8 0, Value.int IntKind.u8 0, Value.int IntKind.u8 0, Value.int IntKind.u8 0, Value.int IntKind.u8 0, Value.int IntKind.u8 0, Value.int IntKind.u8 0, Value.int IntKind.u8 0, Value.int IntKind.u8 0, Value.int IntKind.u8 0, Value.int IntKind.u8 0, Value.int IntKind.u8 0, Value.int IntKind.u8 0, Value.int IntKind.u8 0, Value.int IntKind.u8 0, Value.int IntKind.u8 0, Value.int IntKind.u8 0, Value.int IntKind.u8 0, Value.int IntKind.u8 0, Value.int IntKind.u8 0, Value.int IntKind.u8 0, Value.int IntKind.u8 0, Value.int IntKind.u8 0, Value.int IntKind.u8 0, Value.int IntKind.u8 0, Value.int IntKind.u8 0, Value.int IntKind.u8 0, Value.int IntKind.u8 0, Value.int IntKind.u8 0, Value.int IntKind.u8 0, Value.int IntKind.u8 0, Value.int IntKind.u8 0, Value.int IntKind.u8 0, Value.int IntKind.u8 0, Value.int IntKind.u8 0, Value.int IntKind.u8 0, Value.int IntKind.u8 0, Value.int IntKind.u8 0, Value.int IntKind.u8 0, Value.int IntKind.u8 0, Value.int IntKind.u8 0, Value.int IntKind.u8 0, Value.int IntKind.u8 0, Value.int IntKind.u8 0, Value.int IntKind.u8 0, Value.int IntKind.u8 0, Value.int IntKind.u8 0, Value.int IntKind.u8 0, Value.int IntKind.u8 0, Value.int IntKind.u8 0, Value.int IntKind.u8 0, Value.int IntKind.u8 0, Value.int IntKind.u8 0, Value.int IntKind.u8 0, Value.int IntKind.u8 0, Value.int IntKind.u8 0, Value.int IntKind.u8 0] : Array Value) = u8s (zeros 64) := by rfl
end Go.Proofs.YtifepgigkmhdaaaDoor.St
/- keyBlock, masked: a key as a block; a block under a mask. -/
namespace Go.Proofs.YtifepgigkmhdaaaDoor.Sy
set_option linter.unusedVariables false
set_option linter.unusedSimpArgs false
set_option maxRecDepth 100000
open Go.ChangeShapes Go.WideShapes Go.ChangeAt Go.RowKit
open Go.Proofs.YtifepgigkmhdaaaDoor.Wu Go.Proofs.YtifepgigkmhdaaaDoor.Sm Go.Proofs.YtifepgigkmhdaaaDoor.Sk Go.Proofs.YtifepgigkmhdaaaDoor.Sc Go.Proofs.YtifepgigkmhdaaaDoor.Sxa Go.Proofs.YtifepgigkmhdaaaDoor.Sh Go.Proofs.YtifepgigkmhdaaaDoor.Sn Go.Proofs.YtifepgigkmhdaaaDoor.Sw0 Go.Proofs.YtifepgigkmhdaaaDoor.Sx Go.Proofs.YtifepgigkmhdaaaDoor.Sw Go.Proofs.YtifepgigkmhdaaaDoor.Sb Go.Proofs.YtifepgigkmhdaaaDoor.Sf Go.Proofs.YtifepgigkmhdaaaDoor.So Go.Proofs.YtifepgigkmhdaaaDoor.Su Go.Proofs.YtifepgigkmhdaaaDoor.St Go.Proofs.YtifepgigkmhdaaaDoor.Sv

/-- A key as a block. -/
def keyL (L : List Nat) : List Nat := if 64 < L.length then sha L ++ zeros 32 else L ++ zeros (64 - L.length)
theorem keyL_length (L : List Nat) : (keyL L).length = 64 := by
  unfold keyL
  split
  · simp [sha_length, zeros]
  · simp [zeros]; omega
theorem keyL_all {L : List Nat} (h : All8 L) : All8 (keyL L) := by
  unfold keyL
  split
  · exact all8_append (all8_sha L) (all8_zeros _)
  · exact all8_append h (all8_zeros _)
/-- Under a mask. -/
def mask (c : Nat) (X : List Nat) : List Nat := X.map fun x => x ^^^ c
theorem mask_length (c : Nat) (X : List Nat) : (mask c X).length = X.length := by simp [mask]
theorem xor8 {x c : Nat} (hx : x < 256) (hc : c < 256) : x ^^^ c < 256 := Nat.xor_lt_two_pow (n := 8) hx hc
theorem mask_all {c : Nat} {X : List Nat} (hc : c < 256) (h : All8 X) : All8 (mask c X) := by
  intro x hx
  simp only [mask, List.mem_map] at hx
  obtain ⟨y, hy, rfl⟩ := hx
  exact xor8 (h y hy) hc
def maskR (c : Nat) (X : List Nat) (k : Nat) : List Nat := mask c (X.take k) ++ X.drop k
theorem maskR_length (c : Nat) (X : List Nat) (k : Nat) : (maskR c X k).length = X.length := by simp [maskR, mask]; omega
theorem maskR_at (c : Nat) (X : List Nat) (k : Nat) (hk : k < X.length) : (maskR c X k).getD k 0 = X.getD k 0 := by
  have h1 : (mask c (X.take k)).length = k := by simp [mask]; omega
  simp only [maskR, List.getD]
  rw [List.getElem?_append_right (by omega), h1, Nat.sub_self, List.getElem?_drop, Nat.add_zero]
theorem maskR_step (c : Nat) (X : List Nat) (k : Nat) (hk : k < X.length) : (maskR c X k).set k (X.getD k 0 ^^^ c) = maskR c X (k + 1) := by
  have h1 : (mask c (X.take k)).length = k := by simp [mask]; omega
  have e1 : X.take (k + 1) = X.take k ++ [X.getD k 0] := by rw [List.take_succ_eq_append_getElem hk]; simp [List.getD, hk]
  have e2 : X.drop k = X.getD k 0 :: X.drop (k + 1) := by rw [List.drop_eq_getElem_cons hk]; simp [List.getD, hk]
  unfold maskR
  rw [e1, e2, List.set_append_right _ _ (by omega), h1, Nat.sub_self, List.set_cons_zero]
  simp [mask]
theorem maskR_end (c : Nat) (X : List Nat) : maskR c X X.length = mask c X := by simp [maskR]
theorem xor_u8 (x c : Nat) (hx : x < 256) (hc : c < 256) : bits .xor .u8 (x : Int) (c : Int) = ((x ^^^ c : Nat) : Int) := by
  rw [u8_xor _ _ (by omega) (by omega) (by omega) (by omega)]
  simp
theorem info64 : (Tryd.prog.info? 190).map (·.size) = some 64 := by kernel_rfl
set_option maxHeartbeats 1600000 in
set_option maxRecDepth 100000 in
theorem masked_c (X : List Nat) (c : Nat) (w : World) (hX : X.length = 64) (h8 : All8 X) (hc : c < 256) :
    Calls Tryd.prog 107 #[.agg (u8s X), .int .u8 (c : Int)] w fun e w' => e = .returned (.agg (u8s (mask c X))) ∧ Below w.heap.size w w' := by
  have HX := hide hX
  have H0 := hide (heap_2a w (.cells (u8s X) 190) (.cells (u8s (zeros 64)) 190))
  have H1 := hide (heap_2b w (.cells (u8s X) 190) (.cells (u8s (zeros 64)) 190))
  have HB := hide (((Below.refl w.heap.size w).alloc (Nat.le_refl _) (.cells (u8s X) 190)).alloc (by simp) (.cells (u8s (zeros 64)) 190))
  clear hX
  go_enter Tryd.func107, Tryd.ntmps107
  go_wp2_with fail
  rw [zlit64]
  generalize ((w.alloc (.cells (u8s X) 190)).alloc (.cells (u8s (zeros 64)) 190)) = w1 at *
  go_loopw [6, 5] (fun i _ wr => ∃ k : Nat, k ≤ 64 ∧ i = .int .i64 k ∧ wr.heap[w.heap.size]? = some (.cells (u8s (maskR c X k)) 190 (0, 0)) ∧ wr.heap[w.heap.size + 1]? = some (.cells (u8s (zeros 64)) 190 (0, 0)) ∧ Below w.heap.size w wr) (fun i _ _ => 64 - (intOf i).toNat)
  case atStart => exact ⟨0, by omega, rfl, H0.out, H1.out, HB.out⟩
  case round =>
    clear H0 H1 HB
    obtain ⟨k, hk, rfl, h1, h2, hb⟩ := hrel
    have H1 := hide h1
    have H2 := hide h2
    have HB := hide hb
    clear h1 h2 hb
    by_cases hlk : k < 64
    · have hx8 := all8_getD h8 k
      have Hst := hide (maskR_step c X k (by rw [HX.out]; exact hlk))
      have cx := row8 (i := k) H1.out (by rw [maskR_length, HX.out]; exact hlk)
      rw [maskR_at c X k (by rw [HX.out]; exact hlk)] at cx
      have fx := blk_free (i := k) H1.out
      obtain ⟨x, hx⟩ : ∃ x, x = X.getD k 0 := ⟨_, rfl⟩
      rw [← hx] at cx hx8 Hst
      clear hx
      have hd : decide ((k : Int) < 64) = true := by simp; omega
      have k0 : (0 : Int) ≤ (k : Int) := by omega
      have k1 : (k : Int) < 64 := by omega
      have hxo := xor_u8 x c hx8 hc
      go_wp2
      go_roundw
      case rel =>
        have e := blk_set (i := k) H1.out (.int .u8 ((x ^^^ c : Nat) : Int))
        rw [u8s_set, Hst.out] at e
        exact ⟨k + 1, by omega, by go_num, e, blk_set_other H2.out (by omega) _, HB.out.setCell (Nat.le_refl _) _⟩
      case measure => simp [intOf]; omega
    · have hk8 : k = 64 := by omega
      subst hk8
      have h1 := H1.out
      rw [← HX.out, maskR_end] at h1
      have Hl : Hid ((mask c X).length = 64) := by show _ = _; rw [mask_length, HX.out]
      have H3 := hide h1
      clear h1 H1
      have hd : decide (((64 : Nat) : Int) < 64) = false := by simp
      go_wp2_with (first
        | (refine wpList_load_whole rfl 190 (.tmp 2) rfl w.heap.size (mask c X) 190 (0, 0) rfl H3.out _ Tryd.underlying190 rfl (by rw [info64, Hl.out]) ?_)
        | (refine wpList_store_whole rfl 190 (.tmp 4) (.tmp 16) rfl (w.heap.size + 1) (mask c X) (zeros 64) 190 rfl rfl H2.out Hl.out (by rw [info64, Hl.out]) ?_))
      intro w5 H5 HG5
      have HB5 := hide (belowG HB.out HG5.out (by omega) HB.out.size)
      refine of_hid ?_
      go_wp2_with fail
      exact ret_whole Tryd.results107 (w.heap.size + 1) (mask c X) 190 (0, 0) rfl H5.out _ Tryd.underlying190 rfl (by rw [info64, Hl.out]) rfl ⟨rfl, HB5.out⟩
/-- The row behind the copied bytes. -/
theorem splice_key (L : List Nat) (h : L.length ≤ 64) : (splice (b8 (zeros 64)) 0 (b8 L)).toArray = u8s (L ++ zeros (64 - L.length)) := by
  unfold splice
  rw [List.take_zero, List.nil_append, Nat.zero_add, b8_length, u8s_b8]
  have e : (b8 (zeros 64)).drop L.length = b8 (zeros (64 - L.length)) := by unfold b8 zeros; rw [← List.map_drop, List.drop_replicate]
  rw [e]
  unfold b8
  rw [List.map_append]
theorem b8_get {w : World} {B off m : Nat} {L : List Nat} (hl : L.length = m) (hc : ∀ i, i < m → w.cell? ⟨B, off + i, none⟩ = some (.int .u8 ((L.getD i 0 : Nat) : Int))) : ∀ j v, (b8 L)[j]? = some v → w.cell? ((⟨B, off, none⟩ : Addr).add j) = some v := by
  intro j v hv
  obtain ⟨hj, rfl⟩ := b8_at hv
  rw [Addr.add_mid]
  exact hc j (by omega)
set_option maxHeartbeats 1600000 in
set_option maxRecDepth 100000 in
theorem key_short (a : Option Addr) (m c : Nat) (L : List Nat) (w : World) (hs : SrcB w a m L) (hc : m ≤ c) (hm : m ≤ 64) :
    Calls Tryd.prog 106 #[.slice a m c] w fun e w' => e = .returned (.agg (u8s (L ++ zeros (64 - L.length)))) ∧ Below w.heap.size w w' := by
  have HS := hide hs
  have HL := hide hs.1
  have H0 := hide (heap_2a w (.cells (u8s (zeros 64)) 190) (.cells (u8s (zeros 64)) 190))
  have H1 := hide (heap_2b w (.cells (u8s (zeros 64)) 190) (.cells (u8s (zeros 64)) 190))
  have HB := hide (((Below.refl w.heap.size w).alloc (Nat.le_refl _) (.cells (u8s (zeros 64)) 190)).alloc (by simp) (.cells (u8s (zeros 64)) 190))
  clear hs
  have hd : decide (64 < m) = false := by simp; omega
  have hd2 : decide ((64 : Int) < (m : Int)) = false := by simp; omega
  have hsl := fun v : World => sliceAll64 v (w.heap.size + 1)
  go_enter Tryd.func106, Tryd.ntmps106
  go_wp2_with (refine wpList_copy_splice rfl (.tmp 14) (.tmp 15) 22 22 rfl 5 Tryd.underlying22 info_u8s (some ⟨w.heap.size + 1, 0, none⟩) a 64 64 m c rfl rfl (w.heap.size + 1) 0 (b8 (zeros 64)) 190 H1.out (b8 L) ?_ ?_ ?_ (b8_one L) (w.heap.size + 1) _ (Below.refl _ _) (Nat.le_refl _) ?_)
  · rw [b8_length, HL.out]; show m = min m 64; omega
  · intro hp
    obtain ⟨h1, h2, b, off, h3, h4⟩ := HS.out
    rw [b8_length, h1] at hp
    have key := b8_get (w := ((w.alloc (.cells (u8s (zeros 64)) 190)).alloc (.cells (u8s (zeros 64)) 190))) h1 (fun i hi => keepC HB.out (Nat.le_refl _) (h4 i hi))
    first
      | exact ⟨rfl, ⟨b, off, none⟩, h3 hp, key⟩
      | exact ⟨⟨b, off, none⟩, h3 hp, key⟩
  · rw [b8_length, b8_length, HL.out, zeros_length]; omega
  intro w2 H2 HB2
  have H2' := H2.out
  rw [splice_key L (by rw [HL.out]; exact hm)] at H2'
  have HK := hide H2'
  have HR := hide (below_blk HB2 (by omega) H0.out)
  have HBB : Hid (Below w.heap.size w w2) := HB.out.trans (HB2.mono (by omega))
  have HYl : Hid ((L ++ zeros (64 - L.length)).length = 64) := by show _ = _; rw [List.length_append, zeros_length, HL.out]; omega
  obtain ⟨Y, hY⟩ : ∃ Y, Y = L ++ zeros (64 - L.length) := ⟨_, rfl⟩
  have HY := hide hY
  rw [← hY] at HK HYl
  clear H2 H2' HB2 H0 H1 HB hsl hY
  go_wp2_with (first
    | (refine wpList_load_whole rfl 190 (.tmp 3) rfl (w.heap.size + 1) Y 190 (0, 0) rfl HK.out _ Tryd.underlying190 rfl (by rw [info64, HYl.out]) ?_)
    | (refine wpList_store_whole rfl 190 (.tmp 2) (.tmp 17) rfl w.heap.size Y (zeros 64) 190 rfl rfl HR.out HYl.out (by rw [info64, HYl.out]) ?_))
  intro w5 H5 HG5
  have HB5 := hide (belowG HBB.out HG5.out (Nat.le_refl _) HBB.out.size)
  refine of_hid ?_
  go_wp2_with fail
  exact ret_whole Tryd.results106 w.heap.size Y 190 (0, 0) rfl H5.out _ Tryd.underlying190 rfl (by rw [info64, HYl.out]) rfl ⟨by rw [HY.out], HB5.out⟩
set_option maxHeartbeats 1600000 in
set_option maxRecDepth 100000 in
theorem key_long (a : Option Addr) (m c : Nat) (L : List Nat) (w : World) (hs : SrcB w a m L) (hc : m ≤ c) (hm : 64 < m) (hT : Tbl w) (hF : Fst w) (hbig : m ≤ 140737488355328) :
    Calls Tryd.prog 106 #[.slice a m c] w fun e w' => e = .returned (.agg (u8s (sha L ++ zeros 32))) ∧ Below w.heap.size w w' := by
  have HS := hide hs
  have HL := hide hs.1
  have HT := hide hT
  have HF := hide hF
  have H0 := hide (heap_old (heap_2a w (.cells (u8s (zeros 64)) 190) (.cells (u8s (zeros 64)) 190)) (.cells #[.slice a m c] 22))
  have H1 := hide (heap_old (heap_2b w (.cells (u8s (zeros 64)) 190) (.cells (u8s (zeros 64)) 190)) (.cells #[.slice a m c] 22))
  have H2 := hide (heap_3c w (.cells (u8s (zeros 64)) 190) (.cells (u8s (zeros 64)) 190) (.cells #[.slice a m c] 22))
  have HB := hide ((((Below.refl w.heap.size w).alloc (Nat.le_refl _) (.cells (u8s (zeros 64)) 190)).alloc (by simp) (.cells (u8s (zeros 64)) 190)).alloc (by simp; omega) (.cells #[.slice a m c] 22))
  clear hs hT hF
  have hd : decide (64 < m) = true := by simp; omega
  go_enter Tryd.func106, Tryd.ntmps106
  go_wp2_with fail
  rw [zlit64]
  generalize (((w.alloc (.cells (u8s (zeros 64)) 190)).alloc (.cells (u8s (zeros 64)) 190)).alloc (.cells #[.slice a m c] 22)) = w0 at *
  refine (of_c _ _ [⟨a, m, c, L⟩] w0 (parts_one (HS.out.below HB.out) hc H2.out) (tbl_keep HT.out HB.out (Nat.le_refl _)) (fst_keep HF.out HB.out (Nat.le_refl _)) (by rw [flat_one, HL.out]; exact hbig) (by simp)).mono ?_
  rintro e w1 ⟨rfl, hb1⟩
  rw [flat_one]
  obtain ⟨X, hX⟩ : ∃ X, X = sha L := ⟨_, rfl⟩
  have HXl : Hid (X.length = 32) := by show _ = _; rw [hX]; rfl
  have HX := hide hX
  rw [← hX]
  clear hX
  have HR1 := hide (below_blk hb1 (heap_lt H0.out) H0.out)
  have HK1 := hide (below_blk hb1 (heap_lt H1.out) H1.out)
  have HB1 := hide (keepB hb1 (Nat.le_refl _) HB.out)
  have hz1 := heap_lt HK1.out
  have Hz := hide (heap_last w1 (.cells (u8s (zeros 32)) 79))
  have HRz := hide (heap_old HR1.out (.cells (u8s (zeros 32)) 79))
  have HKz := hide (heap_old HK1.out (.cells (u8s (zeros 32)) 79))
  have HBz := hide (HB1.out.alloc HB1.out.size (.cells (u8s (zeros 32)) 79))
  clear hb1 HB H0 H1 H2 HR1 HK1 HB1
  go_wp2_with (refine wpList_store_whole rfl 79 (.tmp 4) (.tmp 10) rfl w1.heap.size X (zeros 32) 79 rfl rfl Hz.out HXl.out (by rw [infoS, HXl.out]) ?_)
  intro w2 HS2 HG2
  have HR2 := hide (keepG HG2.out (by omega) HRz.out)
  have HK2 := hide (keepG HG2.out (by omega) HKz.out)
  have HB2 := hide (belowG HBz.out HG2.out (by omega) HBz.out.size)
  clear Hz HRz HKz HBz HG2
  generalize w1.heap.size = SB at *
  refine of_hid ?_
  have hsl := fun v : World => sliceAll64 v (w.heap.size + 1)
  have hs2 := fun v : World => sliceAllS v SB
  as_aux_lemma =>
    go_wp2_with fail
    go_still_tail 2, (by kernel_rfl)
    refine wpList_copy_own rfl (.tmp 11) (.tmp 12) 22 22 rfl 5 Tryd.underlying22 info_u8s (w.heap.size + 1) 0 64 64 ⟨SB, 0, none⟩ 32 32 rfl rfl (u8s (zeros 64)) 190 HK2.out (b8 X) ?_ ?_ ?_ (b8_one _) ?_
    · rw [b8_length, HXl.out]; rfl
    · exact b8_get (w := w2.drew) HXl.out (fun i hi => by rw [Nat.zero_add]; exact row8 (w := w2.drew) HS2.out (by rw [HXl.out]; exact hi))
    · rw [b8_length, HXl.out, u8s_size, zeros_length]; omega
    have e : ((u8s (zeros 64)).toList.take 0 ++ (b8 X ++ (u8s (zeros 64)).toList.drop (0 + (b8 X).length))).toArray = u8s (X ++ zeros 32) := by
      have := splice_key X (by rw [HXl.out]; omega)
      rw [HXl.out] at this
      exact this
    rw [e]
    have H6 := hide (setRow_heap w2.drew (w.heap.size + 1) _ (u8s (X ++ zeros 32)) _ _ HK2.out)
    have HR6 : Hid ((w2.drew.setRow (w.heap.size + 1) (u8s (X ++ zeros 32))).heap[w.heap.size]? = some (.cells (u8s (zeros 64)) 190 (0, 0))) := (setRow_other w2.drew (w.heap.size + 1) _ _ (by omega)).trans HR2.out
    have HB6 := hide (below_setRow (g := w.heap.size + 1) HB2.out.drew (by omega) (u8s (X ++ zeros 32)))
    clear hsl hs2 HK2 HR2 HB2 HS2 e
    have HYl : Hid ((X ++ zeros 32).length = 64) := by show _ = _; rw [List.length_append, zeros_length, HXl.out]
    have HY : Hid (sha L ++ zeros 32 = X ++ zeros 32) := by show _ = _; rw [HX.out]
    show wpList _ _ _ _ (Act.put _ _ (goInt (b8 X).length)) (w2.drew.setRow (w.heap.size + 1) (u8s (X ++ zeros 32)))
    generalize (w2.drew.setRow (w.heap.size + 1) (u8s (X ++ zeros 32))) = w6 at *
    generalize X ++ zeros 32 = Y at *
    go_wp2_with (first
      | (refine wpList_load_whole rfl 190 (.tmp 3) rfl (w.heap.size + 1) Y 190 (0, 0) rfl H6.out _ Tryd.underlying190 rfl (by rw [info64, HYl.out]) ?_)
      | (refine wpList_store_whole rfl 190 (.tmp 2) (.tmp 17) rfl w.heap.size Y (zeros 64) 190 rfl rfl HR6.out HYl.out (by rw [info64, HYl.out]) ?_))
    intro w7 H7 HG7
    have HB7 := hide (belowG HB6.out HG7.out (Nat.le_refl _) HB6.out.size)
    refine of_hid ?_
    go_wp2_with fail
    exact ret_whole Tryd.results106 w.heap.size Y 190 (0, 0) rfl H7.out _ Tryd.underlying190 rfl (by rw [info64, HYl.out]) rfl ⟨by rw [HY.out], HB7.out⟩
theorem key_c (a : Option Addr) (m c : Nat) (L : List Nat) (w : World) (hs : SrcB w a m L) (hc : m ≤ c) (hT : Tbl w) (hF : Fst w) (hbig : m ≤ 140737488355328) :
    Calls Tryd.prog 106 #[.slice a m c] w fun e w' => e = .returned (.agg (u8s (keyL L))) ∧ Below w.heap.size w w' := by
  by_cases h : 64 < m
  · rw [show keyL L = sha L ++ zeros 32 by unfold keyL; rw [if_pos (by rw [hs.1]; exact h)]]
    exact key_long a m c L w hs hc h hT hF hbig
  · rw [show keyL L = L ++ zeros (64 - L.length) by unfold keyL; rw [if_neg (by rw [hs.1]; exact h)]]
    exact key_short a m c L w hs hc (by omega)
end Go.Proofs.YtifepgigkmhdaaaDoor.Sy
/- The sum of the letters abc, reckoned step by step by the kernel. Made by wip/gen/abc.py. -/
namespace Go.Proofs.YtifepgigkmhdaaaDoor.Sabc
set_option linter.unusedVariables false
open Go.Proofs.YtifepgigkmhdaaaDoor.Sm Go.Proofs.YtifepgigkmhdaaaDoor.Sh
set_option maxRecDepth 100000
theorem ext_add (m n : Nat) (X : List Nat) : ext (m + n) X = ext m (ext n X) := by
  induction m with
  | zero => rw [Nat.zero_add]; rfl
  | succ m ih => rw [show m + 1 + n = (m + n) + 1 by omega]; simp only [ext]; rw [ih]
def W0 : List Nat := [1633837952, 0, 0, 0, 0, 0, 0, 0, 0, 0, 0, 0, 0, 0, 0, 24]
def W1 : List Nat := [1633837952, 0, 0, 0, 0, 0, 0, 0, 0, 0, 0, 0, 0, 0, 0, 24, 1633837952, 983040, 2108187653, 1610613702]
theorem w1 : ext 4 W0 = W1 := by kernel_rfl
def W2 : List Nat := [1633837952, 0, 0, 0, 0, 0, 0, 0, 0, 0, 0, 0, 0, 0, 0, 24, 1633837952, 983040, 2108187653, 1610613702, 1050508152, 25426944, 316456923, 3806512014]
theorem w2 : ext 4 W1 = W2 := by kernel_rfl
def W3 : List Nat := [1633837952, 0, 0, 0, 0, 0, 0, 0, 0, 0, 0, 0, 0, 0, 0, 24, 1633837952, 983040, 2108187653, 1610613702, 1050508152, 25426944, 316456923, 3806512014, 3357629466, 3073800610, 3854317833, 845560923]
theorem w3 : ext 4 W2 = W3 := by kernel_rfl
def W4 : List Nat := [1633837952, 0, 0, 0, 0, 0, 0, 0, 0, 0, 0, 0, 0, 0, 0, 24, 1633837952, 983040, 2108187653, 1610613702, 1050508152, 25426944, 316456923, 3806512014, 3357629466, 3073800610, 3854317833, 845560923, 2636160359, 3968280267, 1881225380, 3552024379]
theorem w4 : ext 4 W3 = W4 := by kernel_rfl
def W5 : List Nat := [1633837952, 0, 0, 0, 0, 0, 0, 0, 0, 0, 0, 0, 0, 0, 0, 24, 1633837952, 983040, 2108187653, 1610613702, 1050508152, 25426944, 316456923, 3806512014, 3357629466, 3073800610, 3854317833, 845560923, 2636160359, 3968280267, 1881225380, 3552024379, 2482346367, 996719219, 2952069057, 4043988066]
theorem w5 : ext 4 W4 = W5 := by kernel_rfl
def W6 : List Nat := [1633837952, 0, 0, 0, 0, 0, 0, 0, 0, 0, 0, 0, 0, 0, 0, 24, 1633837952, 983040, 2108187653, 1610613702, 1050508152, 25426944, 316456923, 3806512014, 3357629466, 3073800610, 3854317833, 845560923, 2636160359, 3968280267, 1881225380, 3552024379, 2482346367, 996719219, 2952069057, 4043988066, 176896406, 1924104970, 2483675966, 610538786]
theorem w6 : ext 4 W5 = W6 := by kernel_rfl
def W7 : List Nat := [1633837952, 0, 0, 0, 0, 0, 0, 0, 0, 0, 0, 0, 0, 0, 0, 24, 1633837952, 983040, 2108187653, 1610613702, 1050508152, 25426944, 316456923, 3806512014, 3357629466, 3073800610, 3854317833, 845560923, 2636160359, 3968280267, 1881225380, 3552024379, 2482346367, 996719219, 2952069057, 4043988066, 176896406, 1924104970, 2483675966, 610538786, 2672279444, 4037431130, 1042573945, 657669027]
theorem w7 : ext 4 W6 = W7 := by kernel_rfl
def W8 : List Nat := [1633837952, 0, 0, 0, 0, 0, 0, 0, 0, 0, 0, 0, 0, 0, 0, 24, 1633837952, 983040, 2108187653, 1610613702, 1050508152, 25426944, 316456923, 3806512014, 3357629466, 3073800610, 3854317833, 845560923, 2636160359, 3968280267, 1881225380, 3552024379, 2482346367, 996719219, 2952069057, 4043988066, 176896406, 1924104970, 2483675966, 610538786, 2672279444, 4037431130, 1042573945, 657669027, 206005234, 2215296807, 2049510749, 106709978]
theorem w8 : ext 4 W7 = W8 := by kernel_rfl
def W9 : List Nat := [1633837952, 0, 0, 0, 0, 0, 0, 0, 0, 0, 0, 0, 0, 0, 0, 24, 1633837952, 983040, 2108187653, 1610613702, 1050508152, 25426944, 316456923, 3806512014, 3357629466, 3073800610, 3854317833, 845560923, 2636160359, 3968280267, 1881225380, 3552024379, 2482346367, 996719219, 2952069057, 4043988066, 176896406, 1924104970, 2483675966, 610538786, 2672279444, 4037431130, 1042573945, 657669027, 206005234, 2215296807, 2049510749, 106709978, 4215179723, 3430291419, 3118885940, 2845390439]
theorem w9 : ext 4 W8 = W9 := by kernel_rfl
def W10 : List Nat := [1633837952, 0, 0, 0, 0, 0, 0, 0, 0, 0, 0, 0, 0, 0, 0, 24, 1633837952, 983040, 2108187653, 1610613702, 1050508152, 25426944, 316456923, 3806512014, 3357629466, 3073800610, 3854317833, 845560923, 2636160359, 3968280267, 1881225380, 3552024379, 2482346367, 996719219, 2952069057, 4043988066, 176896406, 1924104970, 2483675966, 610538786, 2672279444, 4037431130, 1042573945, 657669027, 206005234, 2215296807, 2049510749, 106709978, 4215179723, 3430291419, 3118885940, 2845390439, 2226839261, 3256115900, 344409900, 2987358873]
theorem w10 : ext 4 W9 = W10 := by kernel_rfl
def W11 : List Nat := [1633837952, 0, 0, 0, 0, 0, 0, 0, 0, 0, 0, 0, 0, 0, 0, 24, 1633837952, 983040, 2108187653, 1610613702, 1050508152, 25426944, 316456923, 3806512014, 3357629466, 3073800610, 3854317833, 845560923, 2636160359, 3968280267, 1881225380, 3552024379, 2482346367, 996719219, 2952069057, 4043988066, 176896406, 1924104970, 2483675966, 610538786, 2672279444, 4037431130, 1042573945, 657669027, 206005234, 2215296807, 2049510749, 106709978, 4215179723, 3430291419, 3118885940, 2845390439, 2226839261, 3256115900, 344409900, 2987358873, 4015503821, 3957764664, 2682456414, 2025622859]
theorem w11 : ext 4 W10 = W11 := by kernel_rfl
def W12 : List Nat := [1633837952, 0, 0, 0, 0, 0, 0, 0, 0, 0, 0, 0, 0, 0, 0, 24, 1633837952, 983040, 2108187653, 1610613702, 1050508152, 25426944, 316456923, 3806512014, 3357629466, 3073800610, 3854317833, 845560923, 2636160359, 3968280267, 1881225380, 3552024379, 2482346367, 996719219, 2952069057, 4043988066, 176896406, 1924104970, 2483675966, 610538786, 2672279444, 4037431130, 1042573945, 657669027, 206005234, 2215296807, 2049510749, 106709978, 4215179723, 3430291419, 3118885940, 2845390439, 2226839261, 3256115900, 344409900, 2987358873, 4015503821, 3957764664, 2682456414, 2025622859, 2755645205, 1720397816, 4004225740, 313650667]
theorem w12 : ext 4 W11 = W12 := by kernel_rfl
theorem w0 : W16 (padded [97, 98, 99]) = W0 := by kernel_rfl
theorem sched_abc : sched (padded [97, 98, 99]) = W12 := by
  unfold sched
  rw [w0]
  rw [show (48 : Nat) = 4 + (4 + (4 + (4 + (4 + (4 + (4 + (4 + (4 + (4 + (4 + 4)))))))))) from rfl, ext_add, ext_add, ext_add, ext_add, ext_add, ext_add, ext_add, ext_add, ext_add, ext_add, ext_add, w1, w2, w3, w4, w5, w6, w7, w8, w9, w10, w11, w12]
theorem rounds_succ (X : List Nat) (s : S8) (n : Nat) : rounds X s (n + 1) = (rounds X s n).step (Ks.getD n 0) (X.getD n 0) := rfl
theorem r0 : rounds W12 H0 0 = ⟨1779033703, 3144134277, 1013904242, 2773480762, 1359893119, 2600822924, 528734635, 1541459225⟩ := rfl
theorem r1 : rounds W12 H0 1 = ⟨1567288269, 1779033703, 3144134277, 1013904242, 4197074466, 1359893119, 2600822924, 528734635⟩ := (rounds_succ W12 H0 0).trans (by rw [r0]; kernel_rfl)
theorem r2 : rounds W12 H0 2 = ⟨1516951981, 1567288269, 1779033703, 3144134277, 2026797449, 4197074466, 1359893119, 2600822924⟩ := (rounds_succ W12 H0 1).trans (by rw [r1]; kernel_rfl)
theorem r3 : rounds W12 H0 3 = ⟨3368241063, 1516951981, 1567288269, 1779033703, 4180228587, 2026797449, 4197074466, 1359893119⟩ := (rounds_succ W12 H0 2).trans (by rw [r2]; kernel_rfl)
theorem r4 : rounds W12 H0 4 = ⟨3578852966, 3368241063, 1516951981, 1567288269, 618661968, 4180228587, 2026797449, 4197074466⟩ := (rounds_succ W12 H0 3).trans (by rw [r3]; kernel_rfl)
theorem r5 : rounds W12 H0 5 = ⟨71342698, 3578852966, 3368241063, 1516951981, 1135452741, 618661968, 4180228587, 2026797449⟩ := (rounds_succ W12 H0 4).trans (by rw [r4]; kernel_rfl)
theorem r6 : rounds W12 H0 6 = ⟨725748213, 71342698, 3578852966, 3368241063, 1900175533, 1135452741, 618661968, 4180228587⟩ := (rounds_succ W12 H0 5).trans (by rw [r5]; kernel_rfl)
theorem r7 : rounds W12 H0 7 = ⟨3842179968, 725748213, 71342698, 3578852966, 2603066369, 1900175533, 1135452741, 618661968⟩ := (rounds_succ W12 H0 6).trans (by rw [r6]; kernel_rfl)
theorem r8 : rounds W12 H0 8 = ⟨2241887071, 3842179968, 725748213, 71342698, 207977081, 2603066369, 1900175533, 1135452741⟩ := (rounds_succ W12 H0 7).trans (by rw [r7]; kernel_rfl)
theorem r9 : rounds W12 H0 9 = ⟨2382687417, 2241887071, 3842179968, 725748213, 852110732, 207977081, 2603066369, 1900175533⟩ := (rounds_succ W12 H0 8).trans (by rw [r8]; kernel_rfl)
theorem r10 : rounds W12 H0 10 = ⟨2357671019, 2382687417, 2241887071, 3842179968, 482944406, 852110732, 207977081, 2603066369⟩ := (rounds_succ W12 H0 9).trans (by rw [r9]; kernel_rfl)
theorem r11 : rounds W12 H0 11 = ⟨1201185780, 2357671019, 2382687417, 2241887071, 1131095016, 482944406, 852110732, 207977081⟩ := (rounds_succ W12 H0 10).trans (by rw [r10]; kernel_rfl)
theorem r12 : rounds W12 H0 12 = ⟨4146054569, 1201185780, 2357671019, 2382687417, 2171590377, 1131095016, 482944406, 852110732⟩ := (rounds_succ W12 H0 11).trans (by rw [r11]; kernel_rfl)
theorem r13 : rounds W12 H0 13 = ⟨2274437520, 4146054569, 1201185780, 2357671019, 509051416, 2171590377, 1131095016, 482944406⟩ := (rounds_succ W12 H0 12).trans (by rw [r12]; kernel_rfl)
theorem r14 : rounds W12 H0 14 = ⟨3643992854, 2274437520, 4146054569, 1201185780, 1952073950, 509051416, 2171590377, 1131095016⟩ := (rounds_succ W12 H0 13).trans (by rw [r13]; kernel_rfl)
theorem r15 : rounds W12 H0 15 = ⟨3227803614, 3643992854, 2274437520, 4146054569, 194179596, 1952073950, 509051416, 2171590377⟩ := (rounds_succ W12 H0 14).trans (by rw [r14]; kernel_rfl)
theorem r16 : rounds W12 H0 16 = ⟨2969183118, 3227803614, 3643992854, 2274437520, 123276749, 194179596, 1952073950, 509051416⟩ := (rounds_succ W12 H0 15).trans (by rw [r15]; kernel_rfl)
theorem r17 : rounds W12 H0 17 = ⟨567974555, 2969183118, 3227803614, 3643992854, 2150900380, 123276749, 194179596, 1952073950⟩ := (rounds_succ W12 H0 16).trans (by rw [r16]; kernel_rfl)
theorem r18 : rounds W12 H0 18 = ⟨3271285201, 567974555, 2969183118, 3227803614, 2221859924, 2150900380, 123276749, 194179596⟩ := (rounds_succ W12 H0 17).trans (by rw [r17]; kernel_rfl)
theorem r19 : rounds W12 H0 19 = ⟨4269243327, 3271285201, 567974555, 2969183118, 3431569761, 2221859924, 2150900380, 123276749⟩ := (rounds_succ W12 H0 18).trans (by rw [r18]; kernel_rfl)
theorem r20 : rounds W12 H0 20 = ⟨3790736435, 4269243327, 3271285201, 567974555, 2959311225, 3431569761, 2221859924, 2150900380⟩ := (rounds_succ W12 H0 19).trans (by rw [r19]; kernel_rfl)
theorem r21 : rounds W12 H0 21 = ⟨2647034723, 3790736435, 4269243327, 3271285201, 2329577776, 2959311225, 3431569761, 2221859924⟩ := (rounds_succ W12 H0 20).trans (by rw [r20]; kernel_rfl)
theorem r22 : rounds W12 H0 22 = ⟨3261099373, 2647034723, 3790736435, 4269243327, 3777329520, 2329577776, 2959311225, 3431569761⟩ := (rounds_succ W12 H0 21).trans (by rw [r21]; kernel_rfl)
theorem r23 : rounds W12 H0 23 = ⟨2812502591, 3261099373, 2647034723, 3790736435, 1240797514, 3777329520, 2329577776, 2959311225⟩ := (rounds_succ W12 H0 22).trans (by rw [r22]; kernel_rfl)
theorem r24 : rounds W12 H0 24 = ⟨3319086477, 2812502591, 3261099373, 2647034723, 2856829767, 1240797514, 3777329520, 2329577776⟩ := (rounds_succ W12 H0 23).trans (by rw [r23]; kernel_rfl)
theorem r25 : rounds W12 H0 25 = ⟨472655928, 3319086477, 2812502591, 3261099373, 673443729, 2856829767, 1240797514, 3777329520⟩ := (rounds_succ W12 H0 24).trans (by rw [r24]; kernel_rfl)
theorem r26 : rounds W12 H0 26 = ⟨3454534525, 472655928, 3319086477, 2812502591, 339230094, 673443729, 2856829767, 1240797514⟩ := (rounds_succ W12 H0 25).trans (by rw [r25]; kernel_rfl)
theorem r27 : rounds W12 H0 27 = ⟨3056518332, 3454534525, 472655928, 3319086477, 3343672598, 339230094, 673443729, 2856829767⟩ := (rounds_succ W12 H0 26).trans (by rw [r26]; kernel_rfl)
theorem r28 : rounds W12 H0 28 = ⟨2010346792, 3056518332, 3454534525, 472655928, 3992961016, 3343672598, 339230094, 673443729⟩ := (rounds_succ W12 H0 27).trans (by rw [r27]; kernel_rfl)
theorem r29 : rounds W12 H0 29 = ⟨909411017, 2010346792, 3056518332, 3454534525, 1628611511, 3992961016, 3343672598, 339230094⟩ := (rounds_succ W12 H0 28).trans (by rw [r28]; kernel_rfl)
theorem r30 : rounds W12 H0 30 = ⟨2684750640, 909411017, 2010346792, 3056518332, 2917635127, 1628611511, 3992961016, 3343672598⟩ := (rounds_succ W12 H0 29).trans (by rw [r29]; kernel_rfl)
theorem r31 : rounds W12 H0 31 = ⟨3935906338, 2684750640, 909411017, 2010346792, 17410874, 2917635127, 1628611511, 3992961016⟩ := (rounds_succ W12 H0 30).trans (by rw [r30]; kernel_rfl)
theorem r32 : rounds W12 H0 32 = ⟨1941126133, 3935906338, 2684750640, 909411017, 3126399250, 17410874, 2917635127, 1628611511⟩ := (rounds_succ W12 H0 31).trans (by rw [r31]; kernel_rfl)
theorem r33 : rounds W12 H0 33 = ⟨2564891911, 1941126133, 3935906338, 2684750640, 2631529974, 3126399250, 17410874, 2917635127⟩ := (rounds_succ W12 H0 32).trans (by rw [r32]; kernel_rfl)
theorem r34 : rounds W12 H0 34 = ⟨4267724277, 2564891911, 1941126133, 3935906338, 1495571923, 2631529974, 3126399250, 17410874⟩ := (rounds_succ W12 H0 33).trans (by rw [r33]; kernel_rfl)
theorem r35 : rounds W12 H0 35 = ⟨2846323596, 4267724277, 2564891911, 1941126133, 140458035, 1495571923, 2631529974, 3126399250⟩ := (rounds_succ W12 H0 34).trans (by rw [r34]; kernel_rfl)
theorem r36 : rounds W12 H0 36 = ⟨1705037796, 2846323596, 4267724277, 2564891911, 4105175766, 140458035, 1495571923, 2631529974⟩ := (rounds_succ W12 H0 35).trans (by rw [r35]; kernel_rfl)
theorem r37 : rounds W12 H0 37 = ⟨1101421745, 1705037796, 2846323596, 4267724277, 124953195, 4105175766, 140458035, 1495571923⟩ := (rounds_succ W12 H0 36).trans (by rw [r36]; kernel_rfl)
theorem r38 : rounds W12 H0 38 = ⟨887035396, 1101421745, 1705037796, 2846323596, 2768741693, 124953195, 4105175766, 140458035⟩ := (rounds_succ W12 H0 37).trans (by rw [r37]; kernel_rfl)
theorem r39 : rounds W12 H0 39 = ⟨1841658506, 887035396, 1101421745, 1705037796, 4034403272, 2768741693, 124953195, 4105175766⟩ := (rounds_succ W12 H0 38).trans (by rw [r38]; kernel_rfl)
theorem r40 : rounds W12 H0 40 = ⟨2045405306, 1841658506, 887035396, 1101421745, 519815328, 4034403272, 2768741693, 124953195⟩ := (rounds_succ W12 H0 39).trans (by rw [r39]; kernel_rfl)
theorem r41 : rounds W12 H0 41 = ⟨3597076326, 2045405306, 1841658506, 887035396, 641019235, 519815328, 4034403272, 2768741693⟩ := (rounds_succ W12 H0 40).trans (by rw [r40]; kernel_rfl)
theorem r42 : rounds W12 H0 42 = ⟨3745932591, 3597076326, 2045405306, 1841658506, 2206934801, 641019235, 519815328, 4034403272⟩ := (rounds_succ W12 H0 41).trans (by rw [r41]; kernel_rfl)
theorem r43 : rounds W12 H0 43 = ⟨397020670, 3745932591, 3597076326, 2045405306, 3737995029, 2206934801, 641019235, 519815328⟩ := (rounds_succ W12 H0 42).trans (by rw [r42]; kernel_rfl)
theorem r44 : rounds W12 H0 44 = ⟨2638983059, 397020670, 3745932591, 3597076326, 4255271982, 3737995029, 2206934801, 641019235⟩ := (rounds_succ W12 H0 43).trans (by rw [r43]; kernel_rfl)
theorem r45 : rounds W12 H0 45 = ⟨643991573, 2638983059, 397020670, 3745932591, 2819559920, 4255271982, 3737995029, 2206934801⟩ := (rounds_succ W12 H0 44).trans (by rw [r44]; kernel_rfl)
theorem r46 : rounds W12 H0 46 = ⟨1923828625, 643991573, 2638983059, 397020670, 3077922209, 2819559920, 4255271982, 3737995029⟩ := (rounds_succ W12 H0 45).trans (by rw [r45]; kernel_rfl)
theorem r47 : rounds W12 H0 47 = ⟨2706117808, 1923828625, 643991573, 2638983059, 3581645993, 3077922209, 2819559920, 4255271982⟩ := (rounds_succ W12 H0 46).trans (by rw [r46]; kernel_rfl)
theorem r48 : rounds W12 H0 48 = ⟨1098003085, 2706117808, 1923828625, 643991573, 4274981830, 3581645993, 3077922209, 2819559920⟩ := (rounds_succ W12 H0 47).trans (by rw [r47]; kernel_rfl)
theorem r49 : rounds W12 H0 49 = ⟨91585771, 1098003085, 2706117808, 1923828625, 3178315832, 4274981830, 3581645993, 3077922209⟩ := (rounds_succ W12 H0 48).trans (by rw [r48]; kernel_rfl)
theorem r50 : rounds W12 H0 50 = ⟨4045142696, 91585771, 1098003085, 2706117808, 1851537676, 3178315832, 4274981830, 3581645993⟩ := (rounds_succ W12 H0 49).trans (by rw [r49]; kernel_rfl)
theorem r51 : rounds W12 H0 51 = ⟨2047150241, 4045142696, 91585771, 1098003085, 1391578359, 1851537676, 3178315832, 4274981830⟩ := (rounds_succ W12 H0 50).trans (by rw [r50]; kernel_rfl)
theorem r52 : rounds W12 H0 52 = ⟨2288941602, 2047150241, 4045142696, 91585771, 1227037726, 1391578359, 1851537676, 3178315832⟩ := (rounds_succ W12 H0 51).trans (by rw [r51]; kernel_rfl)
theorem r53 : rounds W12 H0 53 = ⟨270520975, 2288941602, 2047150241, 4045142696, 1386118400, 1227037726, 1391578359, 1851537676⟩ := (rounds_succ W12 H0 52).trans (by rw [r52]; kernel_rfl)
theorem r54 : rounds W12 H0 54 = ⟨4117770203, 270520975, 2288941602, 2047150241, 2672265155, 1386118400, 1227037726, 1391578359⟩ := (rounds_succ W12 H0 53).trans (by rw [r53]; kernel_rfl)
theorem r55 : rounds W12 H0 55 = ⟨1053056219, 4117770203, 270520975, 2288941602, 3842906959, 2672265155, 1386118400, 1227037726⟩ := (rounds_succ W12 H0 54).trans (by rw [r54]; kernel_rfl)
theorem r56 : rounds W12 H0 56 = ⟨952932627, 1053056219, 4117770203, 270520975, 1422599787, 3842906959, 2672265155, 1386118400⟩ := (rounds_succ W12 H0 55).trans (by rw [r55]; kernel_rfl)
theorem r57 : rounds W12 H0 57 = ⟨4241590395, 952932627, 1053056219, 4117770203, 2606665836, 1422599787, 3842906959, 2672265155⟩ := (rounds_succ W12 H0 56).trans (by rw [r56]; kernel_rfl)
theorem r58 : rounds W12 H0 58 = ⟨3227702383, 4241590395, 952932627, 1053056219, 2118385806, 2606665836, 1422599787, 3842906959⟩ := (rounds_succ W12 H0 57).trans (by rw [r57]; kernel_rfl)
theorem r59 : rounds W12 H0 59 = ⟨4290184306, 3227702383, 4241590395, 952932627, 1837350854, 2118385806, 2606665836, 1422599787⟩ := (rounds_succ W12 H0 58).trans (by rw [r58]; kernel_rfl)
theorem r60 : rounds W12 H0 60 = ⟨3064893439, 4290184306, 3227702383, 4241590395, 2988158269, 1837350854, 2118385806, 2606665836⟩ := (rounds_succ W12 H0 59).trans (by rw [r59]; kernel_rfl)
theorem r61 : rounds W12 H0 61 = ⟨3093179625, 3064893439, 4290184306, 3227702383, 2518632596, 2988158269, 1837350854, 2118385806⟩ := (rounds_succ W12 H0 60).trans (by rw [r60]; kernel_rfl)
theorem r62 : rounds W12 H0 62 = ⟨80891244, 3093179625, 3064893439, 4290184306, 2492278198, 2518632596, 2988158269, 1837350854⟩ := (rounds_succ W12 H0 61).trans (by rw [r61]; kernel_rfl)
theorem r63 : rounds W12 H0 63 = ⟨3550093669, 80891244, 3093179625, 3064893439, 4212265488, 2492278198, 2518632596, 2988158269⟩ := (rounds_succ W12 H0 62).trans (by rw [r62]; kernel_rfl)
theorem r64 : rounds W12 H0 64 = ⟨1349398616, 3550093669, 80891244, 3093179625, 1593118500, 4212265488, 2492278198, 2518632596⟩ := (rounds_succ W12 H0 63).trans (by rw [r63]; kernel_rfl)
theorem blk_abc : blk (padded [97, 98, 99]) 0 = padded [97, 98, 99] := by kernel_rfl
theorem compress_abc : compress H0 (padded [97, 98, 99]) = ⟨3128432319, 2399260650, 1094795486, 1571693091, 2953011619, 2518121116, 3021012833, 4060091821⟩ := by
  unfold compress
  rw [sched_abc, r64]
  kernel_rfl
theorem st_abc : st (padded [97, 98, 99]) = ⟨3128432319, 2399260650, 1094795486, 1571693091, 2953011619, 2518121116, 3021012833, 4060091821⟩ := by
  unfold st
  rw [show (padded [97, 98, 99]).length / 64 = 1 by kernel_rfl]
  show compress H0 (blk (padded [97, 98, 99]) 0) = _
  rw [blk_abc, compress_abc]
theorem sha_abc : sha [97, 98, 99] = [186, 120, 22, 191, 143, 1, 207, 234, 65, 65, 64, 222, 93, 174, 34, 35, 176, 3, 97, 163, 150, 23, 122, 156, 180, 16, 255, 97, 242, 0, 21, 173] := by
  unfold sha
  rw [st_abc]
  kernel_rfl
end Go.Proofs.YtifepgigkmhdaaaDoor.Sabc
/- Sums compared; the head of layer 1's statements. -/
namespace Go.Proofs.YtifepgigkmhdaaaDoor.Sg
set_option linter.unusedVariables false
set_option linter.unusedSimpArgs false
set_option maxRecDepth 100000
open Go.ChangeShapes Go.WideShapes Go.ChangeAt Go.RowKit
open Go.Proofs.YtifepgigkmhdaaaDoor.Wu Go.Proofs.YtifepgigkmhdaaaDoor.Sm Go.Proofs.YtifepgigkmhdaaaDoor.Sk Go.Proofs.YtifepgigkmhdaaaDoor.Sc Go.Proofs.YtifepgigkmhdaaaDoor.Sxa Go.Proofs.YtifepgigkmhdaaaDoor.Sh Go.Proofs.YtifepgigkmhdaaaDoor.Sn Go.Proofs.YtifepgigkmhdaaaDoor.Sw0 Go.Proofs.YtifepgigkmhdaaaDoor.Sx Go.Proofs.YtifepgigkmhdaaaDoor.Sw Go.Proofs.YtifepgigkmhdaaaDoor.Sb Go.Proofs.YtifepgigkmhdaaaDoor.Sf Go.Proofs.YtifepgigkmhdaaaDoor.So Go.Proofs.YtifepgigkmhdaaaDoor.Su Go.Proofs.YtifepgigkmhdaaaDoor.St

theorem und_u8 : Tryd.prog.underlying 5 = some (.int .u8) := Tryd.underlying5
theorem cells_u8 : Tryd.prog.cellsOf 5 = 1 := by kernel_rfl
theorem part_u8 (X : List Nat) (i : Nat) (h : i < X.length) (u : World) : Sem.run Tryd.prog (part 5 (u8s X) i) u = .ok (.int .u8 ((X.getD i 0 : Nat) : Int)) u := by
  have e : (u8s X)[i]? = some (.int .u8 ((X.getD i 0 : Nat) : Int)) := u8s_at X i h
  simp [part, e, size_u8, go_sem]
theorem items_u8 (d : Nat) (X Y : List Nat) (u : World) : ∀ is : List Nat, (∀ i ∈ is, i < X.length ∧ i < Y.length) →
    Sem.run Tryd.prog (Op.eqItems (d + 1) 5 1 (u8s X) (u8s Y) is) u = .ok (is.all fun i => X.getD i 0 == Y.getD i 0) u
  | [], _ => by simp [Op.eqItems]
  | i :: is, h => by
    have hi := h i (List.mem_cons_self ..)
    simp only [Op.eqItems, Sem.run_bind, Nat.mul_one, part_u8 X i hi.1, part_u8 Y i hi.2, Result.andThen_ok, run_equalIn_int u d 5 .u8 .u8 _ _ und_u8]
    rw [List.all_cons]
    by_cases he : X.getD i 0 = Y.getD i 0
    · rw [he]
      simp only [BEq.rfl, Bool.not_true, Bool.false_eq_true, if_false, Bool.true_and]
      exact items_u8 d X Y u is fun j hj => h j (List.mem_cons_of_mem _ hj)
    · have e1 : (((X.getD i 0 : Nat) : Int) == ((Y.getD i 0 : Nat) : Int)) = false := by simp only [beq_eq_false_iff_ne]; omega
      have e2 : (X.getD i 0 == Y.getD i 0) = false := by simpa using he
      rw [e1, e2]
      simp
theorem all_range (X Y : List Nat) (h : X.length = 32) (h' : Y.length = 32) : ((List.range 32).all fun i => X.getD i 0 == Y.getD i 0) = decide (X = Y) := by
  rw [Bool.eq_iff_iff]
  simp only [List.all_eq_true, List.mem_range, beq_iff_eq, decide_eq_true_eq]
  constructor
  · intro hh
    apply List.ext_getElem (by omega)
    intro i h1 h2
    have := hh i (by omega)
    simpa [List.getD, h1, h2] using this
  · rintro rfl i _; rfl
/-- Two sums, compared. -/
theorem sum_eq (X Y : List Nat) (hX : X.length = 32) (hY : Y.length = 32) (u : World) :
    Sem.run Tryd.prog (Op.equalIn 10000 79 (.agg (u8s X)) (.agg (u8s Y))) u = .ok (decide (X = Y)) u := by
  obtain ⟨i, hi, _⟩ := Option.map_eq_some_iff.1 info_u8s
  rw [run_equalIn_array (P := Tryd.prog) u 9999 (t := 79) (e := 5) (n := 32) (i := i) (u8s X) (u8s Y) Tryd.underlying79 hi, cells_u8, items_u8 9998 X Y u (List.range 32) (fun i hi => by rw [List.mem_range] at hi; omega), all_range X Y hX hY]
theorem sum_same (X : List Nat) (hX : X.length = 32) (u : World) : Sem.run Tryd.prog (Op.equalIn 10000 79 (.agg (u8s X)) (.agg (u8s X))) u = .ok true u := by
  rw [sum_eq X X hX hX]; simp
theorem parts_two {w : World} {B : Nat} {T : TypeId} {a a' : Option Addr} {m c m' c' : Nat} {L L' : List Nat} (hs : SrcB w a m L) (hc : m ≤ c) (hs' : SrcB w a' m' L') (hc' : m' ≤ c') (hw : w.heap[B]? = some (.cells #[.slice a m c, .slice a' m' c'] T (0, 0))) :
    Parts w (some ⟨B, 0, none⟩) [⟨a, m, c, L⟩, ⟨a', m', c', L'⟩] := by
  refine ⟨B, 0, fun _ => rfl, fun i p hp => ?_⟩
  match i, hp with
  | 0, hp =>
    simp only [List.getElem?_cons_zero, Option.some.injEq] at hp
    subst hp
    exact ⟨blk_cell hw rfl, hs, hc⟩
  | 1, hp =>
    simp only [List.getElem?_cons_succ, List.getElem?_cons_zero, Option.some.injEq] at hp
    subst hp
    exact ⟨blk_cell hw rfl, hs', hc'⟩
theorem flat_two (a a' : Option Addr) (m c m' c' : Nat) (L L' : List Nat) : flat [⟨a, m, c, L⟩, ⟨a', m', c', L'⟩] = L ++ L' := by simp [flat]
theorem text_abc : strN (textL (sha [97, 98, 99])) = ⟨#[98, 97, 55, 56, 49, 54, 98, 102, 56, 102, 48, 49, 99, 102, 101, 97, 52, 49, 52, 49, 52, 48, 100, 101, 53, 100, 97, 101, 50, 50, 50, 51, 98, 48, 48, 51, 54, 49, 97, 51, 57, 54, 49, 55, 55, 97, 57, 99, 98, 52, 49, 48, 102, 102, 54, 49, 102, 50, 48, 48, 49, 53, 97, 100]⟩ := by
  rw [Sabc.sha_abc]
  kernel_rfl
end Go.Proofs.YtifepgigkmhdaaaDoor.Sg
/- Mac: the sum of parts with a key. -/
namespace Go.Proofs.YtifepgigkmhdaaaDoor.Smc
set_option linter.unusedVariables false
set_option linter.unusedSimpArgs false
set_option maxRecDepth 100000
open Go.ChangeShapes Go.WideShapes Go.ChangeAt Go.RowKit
open Go.Proofs.YtifepgigkmhdaaaDoor.Wu Go.Proofs.YtifepgigkmhdaaaDoor.Sm Go.Proofs.YtifepgigkmhdaaaDoor.Sk Go.Proofs.YtifepgigkmhdaaaDoor.Sc Go.Proofs.YtifepgigkmhdaaaDoor.Sxa Go.Proofs.YtifepgigkmhdaaaDoor.Sh Go.Proofs.YtifepgigkmhdaaaDoor.Sn Go.Proofs.YtifepgigkmhdaaaDoor.Sw0 Go.Proofs.YtifepgigkmhdaaaDoor.Sx Go.Proofs.YtifepgigkmhdaaaDoor.Sw Go.Proofs.YtifepgigkmhdaaaDoor.Sb Go.Proofs.YtifepgigkmhdaaaDoor.Sf Go.Proofs.YtifepgigkmhdaaaDoor.So Go.Proofs.YtifepgigkmhdaaaDoor.Su Go.Proofs.YtifepgigkmhdaaaDoor.St Go.Proofs.YtifepgigkmhdaaaDoor.Sv Go.Proofs.YtifepgigkmhdaaaDoor.Sy Go.Proofs.YtifepgigkmhdaaaDoor.Sg

/-- The standard's sum with a key. -/
def macL (L M : List Nat) : List Nat := sha (mask 92 (keyL L) ++ sha (mask 54 (keyL L) ++ M))
theorem srcB_whole {w : World} {B : Nat} {X : List Nat} {T : TypeId} {f : Nat × Nat} {n : Nat} (h : w.heap[B]? = some (.cells (u8s X) T f)) (h8 : All8 X) (hn : X.length = n) : SrcB w (some ⟨B, 0, none⟩) n X :=
  ⟨hn, h8, B, 0, fun _ => rfl, fun i hi => by rw [Nat.zero_add]; exact row8 h (by omega)⟩
/-- What is below a new block stays. -/
structure Base (w w' : World) (R : Nat) (T : TypeId) (X : List Nat) : Prop where
  row : w'.heap[R]? = some (.cells (u8s X) T (0, 0))
  below : Below w.heap.size w w'
set_option maxHeartbeats 3200000 in
set_option maxRecDepth 100000 in
theorem mac_c (a : Option Addr) (m c : Nat) (L : List Nat) (A : Option Addr) (cap : Nat) (Ps : List Part) (w : World) (hs : SrcB w a m L) (hc : m ≤ c) (hP : Parts w A Ps) (hT : Tbl w) (hF : Fst w) (hm : m ≤ 140737488355328)
    (hbig : (flat Ps).length ≤ 70368744177664) (hn : Ps.length < 4611686018427387904) :
    Calls Tryd.prog 80 #[.slice a m c, .slice A Ps.length cap] w fun e w' => e = .returned (.agg (u8s (macL L (flat Ps)))) ∧ Below w.heap.size w w' := by
  have Hall := hide (flat_all hP)
  have HS := hide hs
  have HT := hide hT
  have HF := hide hF
  have HPP := hide hP
  obtain ⟨b, off, hA, hp⟩ := hP
  have HA := hide hA
  have HP := hide hp
  have hg1 := tbl_lt hT
  have H0 := hide (heap_last w (.cells (u8s (zeros 32)) 79))
  have HB := hide (below_new w (.cells (u8s (zeros 32)) 79))
  have HK8 := hide (keyL_all hs.2.1)
  have HKl := hide (keyL_length L)
  clear hs hT hF hA hp
  go_enter Tryd.func80, Tryd.ntmps80
  go_wp2_with fail
  rw [zlit8]
  generalize (w.alloc (.cells (u8s (zeros 32)) 79)) = w0 at *
  refine (key_c a m c L w0 (HS.out.below HB.out) hc (tbl_keep HT.out HB.out (Nat.le_refl _)) (fst_keep HF.out HB.out (Nat.le_refl _)) hm).mono ?_
  rintro e w1 ⟨rfl, hb1⟩
  obtain ⟨K, hK⟩ : ∃ K, K = keyL L := ⟨_, rfl⟩
  have HK := hide hK
  rw [← hK] at HK8 HKl ⊢
  clear hK
  have H1 := hide (heap_old (below_blk hb1 (heap_lt H0.out) H0.out) (.cells (u8s (zeros 64)) 190))
  have hz1 := heap_lt (below_blk hb1 (heap_lt H0.out) H0.out)
  have HB1 := hide ((keepB hb1 (Nat.le_refl _) HB.out).alloc (Nat.le_of_lt hz1) (.cells (u8s (zeros 64)) 190))
  have Hz1 := hide (heap_last w1 (.cells (u8s (zeros 64)) 190))
  clear hb1 HB H0
  go_wp2_with (refine wpList_store_whole rfl 190 (.tmp 5) (.tmp 13) rfl w1.heap.size K (zeros 64) 190 rfl rfl Hz1.out HKl.out (by rw [info64, HKl.out]) ?_)
  intro w2 HK2 HG2
  have H2 := hide (keepG HG2.out (by omega) H1.out)
  have HB2 := hide (belowG HB1.out HG2.out (by omega) HB1.out.size)
  clear H1 HB1 Hz1 HG2
  generalize w1.heap.size = KB at *
  refine of_hid ?_
  go_wp2_with (refine wpList_load_whole rfl 190 (.tmp 5) rfl KB K 190 (0, 0) rfl HK2.out _ Tryd.underlying190 rfl (by rw [info64, HKl.out]) ?_)
  refine (masked_c K 54 w2 HKl.out HK8.out (by omega)).mono ?_
  rintro e w3 ⟨rfl, hb3⟩
  obtain ⟨I, hI⟩ : ∃ I, I = mask 54 K := ⟨_, rfl⟩
  have HI := hide hI
  have HIl : Hid (I.length = 64) := by show _ = _; rw [hI, mask_length, HKl.out]
  have HI8 : Hid (All8 I) := by rw [hI]; exact mask_all (by omega) HK8.out
  rw [← hI]
  clear hI
  have H3 := hide (below_blk hb3 (heap_lt H2.out) H2.out)
  have HK3 := hide (below_blk hb3 (heap_lt HK2.out) HK2.out)
  have HB3 := hide (keepB hb3 (Nat.le_refl _) HB2.out)
  have hz3 := heap_lt HK3.out
  have Hz3 := hide (heap_last w3 (.cells (u8s (zeros 64)) 190))
  have H3' := hide (heap_old H3.out (.cells (u8s (zeros 64)) 190))
  have HK3' := hide (heap_old HK3.out (.cells (u8s (zeros 64)) 190))
  have HB3' := hide (HB3.out.alloc HB3.out.size (.cells (u8s (zeros 64)) 190))
  clear hb3 H2 HK2 HB2 H3 HK3 HB3
  go_wp2_with (refine wpList_store_whole rfl 190 (.tmp 6) (.tmp 15) rfl w3.heap.size I (zeros 64) 190 rfl rfl Hz3.out HIl.out (by rw [info64, HIl.out]) ?_)
  intro w4 HI4 HG4
  have H4 := hide (keepG HG4.out (by omega) H3'.out)
  have HK4 := hide (keepG HG4.out (by omega) HK3'.out)
  have HB4 := hide (belowG HB3'.out HG4.out (by omega) HB3'.out.size)
  clear H3' HK3' HB3' Hz3 HG4
  generalize w3.heap.size = IB at *
  refine of_hid ?_
  go_wp2_with fail
  refine (newHasher_c w4 (fst_keep HF.out HB4.out (Nat.le_refl _))).mono ?_
  rintro e w5 ⟨rfl, hb5⟩
  have H5 := hide (below_blk hb5 (heap_lt H4.out) H4.out)
  have HK5 := hide (below_blk hb5 (heap_lt HK4.out) HK4.out)
  have HI5 := hide (below_blk hb5 (heap_lt HI4.out) HI4.out)
  have HB5 := hide (keepB hb5 (Nat.le_refl _) HB4.out)
  have hz5 := heap_lt HI5.out
  clear hb5 H4 HK4 HB4 HI4
  have Hz := hide (heap_last w5 (.cells (hcells Z8 (zeros 64) 0 0).toArray 196))
  have hzz := fun v : World => zeroH v
  have hsl := fun v : World => sliceAll64 v IB
  go_wp2_with (refine wpList_store_mid rfl 196 (.tmp 7) (.tmp 16) rfl w5.heap.size 0 _ rfl rfl ?_ ?_ ?_ ?_)
  · have := there_cells Hz.out
    exact this
  · rw [info74]; rfl
  · exact hcells_one _ _ _ _
  have h3 := blk_setCells (hcells H0 (zeros 64) 0 0) 0 (w5.alloc (.cells (hcells Z8 (zeros 64) 0 0).toArray 196)) (hcells Z8 (zeros 64) 0 0) (by rw [hcells_length, hcells_length]; omega) Hz.out
  rw [show (hcells Z8 (zeros 64) 0 0).take 0 ++ hcells H0 (zeros 64) 0 0 ++ (hcells Z8 (zeros 64) 0 0).drop (0 + (hcells H0 (zeros 64) 0 0).length) = hcells H0 (zeros 64) 0 0 from rfl] at h3
  have Hb2 : Hid (Below w5.heap.size w5 ((w5.alloc (.cells (hcells Z8 (zeros 64) 0 0).toArray 196)).setCells w5.heap.size 0 (hcells H0 (zeros 64) 0 0))) := below_setCells _ _ _ _ (below_new _ _) (Nat.le_refl _)
  have HTk := hide (took_nil h3)
  have H6 := hide (below_blk Hb2.out (heap_lt H5.out) H5.out)
  have HK6 := hide (below_blk Hb2.out (heap_lt HK5.out) HK5.out)
  have HI6 := hide (below_blk Hb2.out (heap_lt HI5.out) HI5.out)
  have HB6 := hide (keepB Hb2.out (Nat.le_refl _) HB5.out)
  clear h3 Hb2 HB5 HI5 HK5 H5 Hz hzz
  generalize ((w5.alloc (.cells (hcells Z8 (zeros 64) 0 0).toArray 196)).setCells w5.heap.size 0 (hcells H0 (zeros 64) 0 0)) = w6 at *
  generalize w5.heap.size = G at *
  as_aux_lemma =>
    have hIG : IB ≠ G := by omega
    refine (write_c G [] _ 64 64 I w6 HTk.out (tbl_keep HT.out HB6.out (Nat.le_refl _)) ⟨HIl.out, HI8.out, IB, 0, fun _ => rfl, fun _ => hIG, fun i hi => by rw [Nat.zero_add]; exact row8 HI6.out (by rw [HIl.out]; exact hi)⟩ (Nat.le_refl _) (by omega) (by simp)).mono ?_
    rintro e w7 ⟨rfl, hT7, hG7⟩
    rw [List.nil_append] at hT7
    have HT7 := hide hT7
    have H7 := hide (keepG hG7 (by omega) H6.out)
    have HK7 := hide (keepG hG7 (by omega) HK6.out)
    have HB7 := hide (belowG HB6.out hG7 (by omega) HB6.out.size)
    clear hT7 hG7 H6 HK6 HB6 HI6 hsl HTk
    go_wp2_with fail
    go_loopw [21, 9] (fun i _ wr => ∃ k : Nat, k ≤ Ps.length ∧ i = .int .i64 k ∧ Took wr G (I ++ flat (Ps.take k)) ∧ wr.heap[w.heap.size]? = some (.cells (u8s (zeros 32)) 79 (0, 0)) ∧ wr.heap[KB]? = some (.cells (u8s K) 190 (0, 0)) ∧ Below w.heap.size w wr) (fun i _ _ => Ps.length - (intOf i).toNat)
    case atStart => exact ⟨0, by omega, rfl, by rw [List.take_zero]; show Took _ _ (I ++ []); rw [List.append_nil]; exact HT7.out, H7.out, HK7.out, HB7.out⟩
    case round =>
      clear HT7 H7 HK7 HB7
      obtain ⟨k, hk, rfl, h1, h2, h4, h3⟩ := hrel
      have H1 := hide h1
      have H2 := hide h2
      have HKw := hide h4
      have HB := hide h3
      have HTw := hide (tbl_keep HT.out h3 (Nat.le_refl _))
      clear h1 h2 h3 h4
      by_cases hlt : k < Ps.length
      · obtain ⟨p, hpk⟩ : ∃ p, Ps[k]? = some p := ⟨Ps[k], List.getElem?_eq_getElem hlt⟩
        obtain ⟨hc', hsrc, hpc⟩ := HP.out k p hpk
        have hcw : wr.cell? ⟨b, off + k, none⟩ = some (.slice p.a p.n p.c) := keepC HB.out (Nat.le_refl _) hc'
        obtain rfl := HA.out (by omega)
        have HSn := hide (hsrc.srcN (g := G) HB.out (by omega))
        have Hf : Hid (I ++ flat (Ps.take (k + 1)) = (I ++ flat (Ps.take k)) ++ p.L) := by
          show _ = _
          rw [List.append_assoc, ← flat_snoc, List.take_add_one, hpk]; rfl
        have hlen := flat_take_le Ps (k + 1)
        have hlen2 : (I ++ flat (Ps.take k)).length + p.n ≤ 281474976710656 := by
          have e : (flat (Ps.take (k + 1))).length = (flat (Ps.take k)).length + p.n := by
            rw [List.take_add_one, hpk]
            show (flat (Ps.take k ++ [p])).length = _
            rw [flat_snoc, List.length_append, hsrc.1]
          rw [List.length_append, HIl.out]
          omega
        have hd : decide ((k : Int) < (Ps.length : Int)) = true := by simp; omega
        clear hpk hc' hsrc hlen
        as_aux_lemma =>
          go_wp2_with fail
          refine (write_c G _ _ p.n p.c p.L wr H1.out HTw.out HSn.out hpc (by omega) hlen2).mono ?_
          rintro e w3 ⟨rfl, hT3, hG3⟩
          have HT3 := hide hT3
          have H23 := hide (keepG hG3 (by omega) H2.out)
          have HK23 := hide (keepG hG3 (by omega) HKw.out)
          have HBB := hide (belowG HB.out hG3 (by omega) HB.out.size)
          clear hT3 hG3 hcw
          go_wp2
          go_roundw
          case rel => exact ⟨k + 1, by omega, by go_num, by rw [Hf.out]; exact HT3.out, H23.out, HK23.out, HBB.out⟩
          case measure => simp [intOf]; omega
      · have hkl : k = Ps.length := by omega
        subst hkl
        have hd : decide ((Ps.length : Int) < (Ps.length : Int)) = false := by simp
        have H1' := H1.out
        rw [List.take_length] at H1'
        have HTK := hide H1'
        clear H1 H1'
        obtain ⟨M, hM⟩ : ∃ M, M = I ++ flat Ps := ⟨_, rfl⟩
        have HM := hide hM
        have HM8 : Hid (All8 M) := by rw [hM]; exact all8_append HI8.out Hall.out
        have hMl : M.length ≤ 140737488355328 := by rw [hM, List.length_append, HIl.out]; omega
        rw [← hM] at HTK
        clear hM
        as_aux_lemma =>
          go_wp2_with fail
          refine (finish_c G M wr HTK.out HTw.out HM8.out (by omega) hMl).mono ?_
          rintro e w8 ⟨rfl, hG8⟩
          obtain ⟨X, hX⟩ : ∃ X, X = sha M := ⟨_, rfl⟩
          have HX := hide hX
          have HXl : Hid (X.length = 32) := by show _ = _; rw [hX]; rfl
          have HX8 : Hid (All8 X) := by rw [hX]; exact all8_sha M
          rw [← hX]
          clear hX
          have H8 := hide (keepG hG8 (by omega) H2.out)
          have HK8' := hide (keepG hG8 (by omega) HKw.out)
          have HB8 := hide (belowG HB.out hG8 (by omega) HB.out.size)
          have hz8 := heap_lt HK8'.out
          have Hz := hide (heap_last w8 (.cells (u8s (zeros 32)) 79))
          have H8a := hide (heap_old H8.out (.cells (u8s (zeros 32)) 79))
          have HK8a := hide (heap_old HK8'.out (.cells (u8s (zeros 32)) 79))
          have HB8a := hide (HB8.out.alloc HB8.out.size (.cells (u8s (zeros 32)) 79))
          clear hG8 H2 HKw HB H8 HK8' HB8 HTK HTw
          have hzR := heap_lt H8a.out
          go_wp2_with (refine wpList_store_whole rfl 79 (.tmp 10) (.tmp 28) rfl w8.heap.size X (zeros 32) 79 rfl rfl Hz.out HXl.out (by rw [infoS, HXl.out]) ?_)
          intro w9 HX9 HG9
          have hR8 : w.heap.size < w8.heap.size := by have := HB8a.out.size; simp at hzR; omega
          have H9 := hide (keepG HG9.out (by omega) H8a.out)
          have HK9 := hide (keepG HG9.out (by omega) HK8a.out)
          have HB9 := hide (belowG HB8a.out HG9.out (by omega) HB8a.out.size)
          clear Hz H8a HK8a HB8a HG9
          generalize w8.heap.size = XB at *
          refine of_hid ?_
          go_wp2_with (refine wpList_load_whole rfl 190 (.tmp 5) rfl KB K 190 (0, 0) rfl HK9.out _ Tryd.underlying190 rfl (by rw [info64, HKl.out]) ?_)
          refine (masked_c K 92 w9 HKl.out HK8.out (by omega)).mono ?_
          rintro e w10 ⟨rfl, hb10⟩
          obtain ⟨O, hO⟩ : ∃ O, O = mask 92 K := ⟨_, rfl⟩
          have HO := hide hO
          have HOl : Hid (O.length = 64) := by show _ = _; rw [hO, mask_length, HKl.out]
          have HO8 : Hid (All8 O) := by rw [hO]; exact mask_all (by omega) HK8.out
          rw [← hO]
          clear hO
          have H10 := hide (heap_old (below_blk hb10 (heap_lt H9.out) H9.out) (.cells (u8s (zeros 64)) 190))
          have HX10 := hide (heap_old (below_blk hb10 (heap_lt HX9.out) HX9.out) (.cells (u8s (zeros 64)) 190))
          have hz10 := heap_lt (below_blk hb10 (heap_lt HX9.out) HX9.out)
          have HBt := hide (keepB hb10 (Nat.le_refl _) HB9.out)
          have HB10 := hide (HBt.out.alloc HBt.out.size (.cells (u8s (zeros 64)) 190))
          have Hz10 := hide (heap_last w10 (.cells (u8s (zeros 64)) 190))
          clear hb10 H9 HX9 HK9 HB9
          go_wp2_with (refine wpList_store_whole rfl 190 (.tmp 11) (.tmp 30) rfl w10.heap.size O (zeros 64) 190 rfl rfl Hz10.out HOl.out (by rw [info64, HOl.out]) ?_)
          intro w11 HO11 HG11
          have H11 := hide (keepG HG11.out (by omega) H10.out)
          have HX11 := hide (keepG HG11.out (by omega) HX10.out)
          have HB11 := hide (belowG HB10.out HG11.out (by omega) HB10.out.size)
          have hOs := heap_lt HO11.out
          clear H10 HX10 HB10 HBt Hz10 HG11
          generalize w10.heap.size = OB at *
          refine of_hid ?_
          have hs1 := fun v : World => sliceAll64 v OB
          have hs2 := fun v : World => sliceAllS v XB
          as_aux_lemma =>
            go_wp2_with fail
            go_still_tail 2, (by kernel_rfl)
            show wpList _ _ _ _ _ w11.drew
            have HOd : Hid (w11.drew.heap[OB]? = some (.cells (u8s O) 190 (0, 0))) := HO11.out
            have HXd : Hid (w11.drew.heap[XB]? = some (.cells (u8s X) 79 (0, 0))) := HX11.out
            have HRd : Hid (w11.drew.heap[w.heap.size]? = some (.cells (u8s (zeros 32)) 79 (0, 0))) := H11.out
            have HBd := hide HB11.out.drew
            clear HO11 HX11 H11 HB11 hs1 hs2
            generalize w11.drew = w12 at *
            have HO12 := hide (heap_old HOd.out (.cells #[.slice (some ⟨OB, 0, none⟩) 64 64, .slice (some ⟨XB, 0, none⟩) 32 32] 22))
            have HX12 := hide (heap_old HXd.out (.cells #[.slice (some ⟨OB, 0, none⟩) 64 64, .slice (some ⟨XB, 0, none⟩) 32 32] 22))
            have HR12 := hide (heap_old HRd.out (.cells #[.slice (some ⟨OB, 0, none⟩) 64 64, .slice (some ⟨XB, 0, none⟩) 32 32] 22))
            have HP12 := hide (heap_last w12 (.cells #[.slice (some ⟨OB, 0, none⟩) 64 64, .slice (some ⟨XB, 0, none⟩) 32 32] 22))
            have HB12 := hide (HBd.out.alloc HBd.out.size (.cells #[.slice (some ⟨OB, 0, none⟩) 64 64, .slice (some ⟨XB, 0, none⟩) 32 32] 22))
            have hs12 := heap_lt HRd.out
            clear HOd HXd HRd HBd
            go_wp2_with fail
            generalize (w12.alloc (.cells #[.slice (some ⟨OB, 0, none⟩) 64 64, .slice (some ⟨XB, 0, none⟩) 32 32] 22)) = w13 at *
            generalize w12.heap.size = PB at *
            refine (of_c _ _ [⟨some ⟨OB, 0, none⟩, 64, 64, O⟩, ⟨some ⟨XB, 0, none⟩, 32, 32, X⟩] w13 (parts_two (srcB_whole HO12.out HO8.out HOl.out) (Nat.le_refl _) (srcB_whole HX12.out HX8.out HXl.out) (Nat.le_refl _) HP12.out)
              (tbl_keep HT.out HB12.out (Nat.le_refl _)) (fst_keep HF.out HB12.out (Nat.le_refl _)) (by rw [flat_two, List.length_append, HOl.out, HXl.out]; omega) (by simp)).mono ?_
            rintro e w14 ⟨rfl, hb14⟩
            rw [flat_two]
            have HR14 := hide (below_blk hb14 (heap_lt HR12.out) HR12.out)
            have HB14 := hide (keepB hb14 (Nat.le_refl _) HB12.out)
            clear hb14 HR12 HB12 HP12 HX12 HO12
            have HY : Hid (macL L (flat Ps) = sha (O ++ X)) := by
              show _ = _
              unfold macL
              rw [HO.out, HX.out, HM.out, HI.out, HK.out]
            have HYl : Hid ((sha (O ++ X)).length = 32) := rfl
            generalize sha (O ++ X) = Y at *
            go_wp2_with (refine wpList_store_whole rfl 79 (.tmp 4) (.tmp 34) rfl w.heap.size Y (zeros 32) 79 rfl rfl HR14.out HYl.out (by rw [infoS, HYl.out]) ?_)
            intro w15 H15 HG15
            have HB15 := hide (belowG HB14.out HG15.out (Nat.le_refl _) HB14.out.size)
            refine of_hid ?_
            go_wp2_with fail
            exact ret_whole Tryd.results80 w.heap.size Y 79 (0, 0) rfl H15.out _ Tryd.underlying79 rfl (by rw [infoS, HYl.out]) rfl ⟨by rw [HY.out], HB15.out⟩
end Go.Proofs.YtifepgigkmhdaaaDoor.Smc
