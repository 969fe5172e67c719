/- block.Table's Find. -/
import Derived.Test.YtheambpddpfcfaaDoorKn
import Derived.Test.YtheambpddpfcfaaDoorRw
namespace Go.Proofs.YtheambpddpfcfaaDoor.Ko
set_option linter.unusedVariables false
set_option linter.unusedSimpArgs false
set_option maxRecDepth 100000
open Go.ChangeShapes Go.WideShapes Go.ChangeAt Go.RowKit
open Go.Proofs.YtheambpddpfcfaaDoor.Wu Go.Proofs.YtheambpddpfcfaaDoor.Sm Go.Proofs.YtheambpddpfcfaaDoor.Sh Go.Proofs.YtheambpddpfcfaaDoor.Ba Go.Proofs.YtheambpddpfcfaaDoor.Bp Go.Proofs.YtheambpddpfcfaaDoor.Ka Go.Proofs.YtheambpddpfcfaaDoor.Kb Go.Proofs.YtheambpddpfcfaaDoor.Kc Go.Proofs.YtheambpddpfcfaaDoor.Kd Go.Proofs.YtheambpddpfcfaaDoor.Ke Go.Proofs.YtheambpddpfcfaaDoor.Rk Go.Proofs.YtheambpddpfcfaaDoor.Rh Go.Proofs.YtheambpddpfcfaaDoor.Rw Go.Proofs.YtheambpddpfcfaaDoor.Rb1 Go.Proofs.YtheambpddpfcfaaDoor.Kg Go.Proofs.YtheambpddpfcfaaDoor.Kh Go.Proofs.YtheambpddpfcfaaDoor.Ki Go.Proofs.YtheambpddpfcfaaDoor.Kj Go.Proofs.YtheambpddpfcfaaDoor.Km Go.Proofs.YtheambpddpfcfaaDoor.Kk Go.Proofs.YtheambpddpfcfaaDoor.Kl
open Go.Proofs.YtheambpddpfcfaaDoor.Sn (Fst fst_keep)
open Go.Proofs.YtheambpddpfcfaaDoor.Sxa (Tbl tbl_keep)
open Go.Proofs.YtheambpddpfcfaaDoor.Su (cutL Cnt)
theorem wpList_look_at {P : Program} {w : World} {ops : Array Oper} {rest : List Oper} {o : Oper} {a : Act} {Q : Exit → Act → World → Prop} (hgd : o.guard = none) (t : TypeId) (m x : Operand) (c : Bool) (hop : o.op = Op.lookup t m x c) (v mv kv : Value) (hm : a.eval m = mv) (hk : a.eval x = kv)
    (hr : (Instr.lookup t mv kv c).run P w = .ok v w) (h : wpList P ops Q rest (a.put o.dst v) w) : wpList P ops Q (o :: rest) a w := by
  subst hm hk
  refine wpList_plain hgd fun K hK => ?_
  unfold Oper.wp
  simp [execOp, hop, hr, Result.andThen]
  exact hK _ _ h
/-- Is it the one that is looked for? -/
def isIt (m : Nat) (b : Blk) (p : Plc) : Bool := decide (p.n = m ∧ p.b = b)
/-- What is found among places. -/
def Fnd (ps : List Plc) (m : Nat) (b : Blk) (i : Int) (ok : Bool) : Prop := (ok = false ∧ i = 0 ∧ ps.find? (isIt m b) = none) ∨ ∃ p, ok = true ∧ i = (p.i : Int) ∧ ps.find? (isIt m b) = some p
def FindP (w : World) (ps : List Plc) (m : Nat) (b : Blk) (e : Ending) (w' : World) : Prop := ∃ i ok, e = .returned (.tuple #[.int .i64 i, .bool ok]) ∧ Fnd ps m b i ok ∧ Below w.heap.size w w'
theorem find_none (w : World) (T M N k x m c : Nat) (a : Option Addr) (es : List (Value × Value)) (G : Nat → List Plc) (b : Blk) (hT : w.heap[T]? = some (.cells #[.int .i64 (k : Int), .map (some M)] 117 (0, 0))) (ht : Tab w M N es G) (hx : x < 4294967296) (h0 : G x = []) :
    Calls Tryd.prog 25 #[.pointer (some ⟨T, 0, none⟩), .int .u32 (x : Int), .slice a m c] w (FindP w (G x) m b) := by
  obtain ⟨v, hlk, hv, -⟩ := ht.at hx
  have HP : Hid (FindP w (G x) m b (.returned (.tuple #[.int .i64 0, .bool false])) w) := hide ⟨0, false, rfl, .inl ⟨rfl, rfl, by rw [h0]; rfl⟩, Below.refl _ _⟩
  obtain ⟨av, cv, rfl, -⟩ := hv.form
  rw [h0] at hlk
  have hr := hlk w rfl
  have c1 : w.cell? ⟨T, 1, none⟩ = some (.map (some M)) := blk_cell hT rfl
  clear hlk hv ht hT h0
  simp only [List.length_nil] at hr
  go_enter Tryd.func25, Tryd.ntmps25
  go_wp2_with (refine wpList_look_at rfl 115 (.tmp 15) (.tmp 16) false rfl _ (.map (some M)) (.int .u32 (x : Int)) rfl rfl hr ?_)
  go_ret2
  exact HP.out
set_option maxHeartbeats 3200000 in
theorem find_some (w : World) (T M N k x m c : Nat) (a : Option Addr) (L : List Nat) (es : List (Value × Value)) (G : Nat → List Plc) (hT : w.heap[T]? = some (.cells #[.int .i64 (k : Int), .map (some M)] 117 (0, 0))) (ht : Tab w M N es G) (hx : x < 4294967296) (h0 : G x ≠ []) (hk : k ≤ 32) (hs : SrcB w a m L) (hc : m ≤ c) (hbig : m ≤ 140737488355328) (hTb : Tbl w) (hF : Fst w) (hgl : (G x).length ≤ 4096) :
    Calls Tryd.prog 25 #[.pointer (some ⟨T, 0, none⟩), .int .u32 (x : Int), .slice a m c] w (FindP w (G x) m ⟨x, cutL k (sha L)⟩) := by
  obtain ⟨v, hlk, hv, -⟩ := ht.at hx
  obtain ⟨av, cv, rfl, hlc, hcm, g, hag, hat⟩ := hv.form
  have hr := hlk w rfl
  obtain ⟨ps, hps⟩ : ∃ ps, ps = G x := ⟨_, rfl⟩
  rw [← hps] at hr hlc hag hat h0 hgl ⊢
  obtain ⟨n, hn⟩ : ∃ n, n = ps.length := ⟨_, rfl⟩
  rw [← hn] at hr hlc hag hgl
  have hn0 : 0 < n := by rw [hn]; exact List.length_pos_iff.2 h0
  have ha := hag hn0
  subst ha
  have Hat := hide hat
  have HN := hide hn
  have hCnt : Cnt (k : Int) k := by unfold Cnt; omega
  have HC := hide (cut_b k k a m c L w hCnt hs hc hTb hF hbig)
  have hwok : Blk.ok ⟨x, cutL k (sha L)⟩ := ⟨hx, Su.cutL_length k _ hk (sha_len L), all8_sub (all8_sha L) k (32 - k)⟩
  have Hbu := hide (built_blk x (cutL k (sha L)) hwok.2.1)
  obtain ⟨wb, hwb⟩ : ∃ wb : Blk, wb = ⟨x, cutL k (sha L)⟩ := ⟨_, rfl⟩
  rw [← hwb] at hwok Hbu ⊢
  have hw33 : (blkC .u32 wb).length = 33 := blkC_length hwok
  obtain ⟨X, hX⟩ : ∃ X, X = cutL k (sha L) := ⟨_, rfl⟩
  rw [← hX] at HC Hbu
  have c0 : w.cell? ⟨T, 0, none⟩ = some (.int .i64 (k : Int)) := blk_cell hT rfl
  have c1 : w.cell? ⟨T, 1, none⟩ = some (.map (some M)) := blk_cell hT rfl
  have e1 : ((n : Int) == 0) = false := by simp; omega
  have e2 : (n == 0) = false := by simp; omega
  clear hlk hv ht hT h0 hps hn hat hag hs hTb hF hwb hX
  go_enter Tryd.func25, Tryd.ntmps25
  go_wp2_with (refine wpList_look_at rfl 115 (.tmp 15) (.tmp 16) false rfl _ (.map (some M)) (.int .u32 (x : Int)) rfl rfl hr ?_)
  refine HC.out.mono ?_
  rintro e w1 ⟨rfl, hb1⟩
  have HB1 := hide hb1
  have HR := hide (fun i p (hp : ps[i]? = some p) (u : World) (hu : Below w.heap.size w u) => range_below (Hat.out i p hp).2 hu)
  clear hb1 HC c0 c1 hr
  go_wp2_with (first
    | (refine wpList_build_at rfl 63 _ rfl [(0, .int .u32 (x : Int)), (1, .agg (u8s X))] rfl _ Hbu.out ?_)
    | (refine wpList_store_all rfl 63 (.tmp 9) (.tmp 28) rfl w1.heap.size (blkC .u32 wb).toArray _ 63 rfl rfl (heap_last _ _) (by rw [List.size_toArray, hw33]; rfl) (by rw [List.size_toArray, hw33]; kernel_rfl) (all_oneCell_toArray (blkC_one _ _)) ?_))
  intro w2 H2 HG2
  refine of_hid ?_
  have HBr := hide (keepB (below_new w1 (.cells (blkC .u32 ⟨0, zeros 32⟩).toArray 63)) (Nat.le_refl _) HB1.out)
  have hw1 := HB1.out.size
  have HB2 := hide (belowG HBr.out HG2.out hw1 HBr.out.size)
  clear HB1 HBr HG2 Hbu
  have hwS : w.heap.size ≤ w1.heap.size := hw1
  generalize w1.heap.size = Wb at *
  go_wp2_with fail
  go_loopw [31] (fun j wr => ∃ i, j = .int .i64 ((i : Nat) : Int) ∧ i ≤ n ∧ (∀ p ∈ ps.take i, isIt m wb p = false) ∧ wr.heap[Wb]? = some (.cells (blkC .u32 wb).toArray 63 (0, 0)) ∧ Below w.heap.size w wr) (fun j _ => n - (intOf j).toNat)
  case atStart => exact ⟨0, rfl, Nat.zero_le _, by simp, H2.out, HB2.out⟩
  case round =>
    clear H2 HB2
    obtain ⟨i, rfl, hi, hno, hW, hB⟩ := hrel
    have HW := hide hW
    have HB := hide hB
    have HNo := hide hno
    clear hW hB hno
    by_cases hlt : i < n
    · obtain ⟨p, hp⟩ : ∃ p, ps[i]? = some p := ⟨ps[i]'(by rw [← HN.out]; exact hlt), by rw [List.getElem?_eq_getElem]⟩
      have hpok := (Hat.out i p hp).1
      have hr0 := HR.out i p hp wr HB.out
      have Hp := hide hp
      clear hp
      have d1 : decide ((i : Int) < (n : Int)) = true := by simpa using hlt
      have i1 : (0 : Int) ≤ (i : Int) := by omega
      have i2 : (i : Int) < (n : Int) := by omega
      have h35 : (plcC p).length = 35 := plcC_length hpok
      have h33 : (blkC .u32 p.b).length = 33 := blkC_length hpok
      go_wp2_with (first
        | (refine wpList_load_part rfl 120 (.tmp 33) rfl g (i * 35) (plcC p) rfl hr0 _ Tryd.underlying120 rfl (by rw [h35]; kernel_rfl) ?_)
        | (refine wpList_store_all rfl 120 (.tmp 11) (.tmp 34) rfl wr.heap.size (plcC p).toArray _ 120 rfl rfl (heap_last _ _) (by rw [List.size_toArray, h35]; rfl) (by rw [List.size_toArray, h35]; kernel_rfl) (all_oneCell_toArray (plcC_one _)) ?_))
      intro w5 H5 HG5
      refine of_hid ?_
      have HBr := hide (keepB (below_new wr (.cells (plcC ⟨0, 0, ⟨0, zeros 32⟩⟩).toArray 120)) (Nat.le_refl _) HB.out)
      have hwr := HB.out.size
      have hlW := heap_lt HW.out
      have HW5 := hide (keepG HG5.out (by omega) (heap_old HW.out _))
      have HB5 := hide (belowG HBr.out HG5.out hwr HBr.out.size)
      clear HW HB HBr HG5 hr0
      generalize wr.heap.size = B at *
      have c0 : w5.cell? ⟨B, 0, none⟩ = some (.int .i64 (p.i : Int)) := blk_cell H5.out rfl
      have c1 : w5.cell? ⟨B, 1, none⟩ = some (.int .i64 (p.n : Int)) := blk_cell H5.out rfl
      have hrb : w5.rangeAt B 2 (blkC .u32 p.b) := fun j v hv => blk_cell H5.out (by
        simp only [List.getElem?_toArray, plcC, Nat.add_comm 2 j, List.getElem?_cons_succ]
        exact hv)
      have hm : Tryd.prog.eqGuardType Tryd.prog.depth 63 = false := by kernel_rfl
      have HStep : Hid (isIt m wb p = false → ∀ q ∈ ps.take (i + 1), isIt m wb q = false) := hide (fun h q hq => by
        rw [List.take_add_one, Hp.out] at hq
        rcases List.mem_append.1 hq with hq | hq
        · exact HNo.out q hq
        · simp at hq; rw [hq]; exact h)
      by_cases hpn : p.n = m
      · have e3 : ((p.n : Int) == (m : Int)) = true := by simp [hpn]
        have e4 : (p.n == m) = true := by simp [hpn]
        have hq := fun u => blk_eq p.b wb hpok hwok u
        by_cases hpb : p.b = wb
        · have HP : Hid (∀ u, Below w.heap.size w u → FindP w ps m wb (.returned (.tuple #[.int .i64 (p.i : Int), .bool true])) u) := hide (fun u hu => ⟨p.i, true, rfl, .inr ⟨p, rfl, rfl, by
            rw [List.find?_eq_some_iff_append]
            refine ⟨by simp [isIt, hpn, hpb], ps.take i, ps.drop (i + 1), split_at ps i p Hp.out, fun q hq => by simp [HNo.out q hq]⟩⟩, hu⟩)
          rw [show decide (p.b = wb) = true by simpa using hpb] at hq
          clear hpn hpb HStep
          go_wp2_with (first
            | (refine wpList_load_partw (by rfl) 63 (.tmp 41) rfl B 2 (blkC .u32 p.b) rfl hrb _ Tryd.underlying63 rfl (by rw [h33]; kernel_rfl) ?_)
            | (refine wpList_load_allw (by rfl) 63 (.tmp 9) rfl Wb (blkC .u32 wb).toArray 63 (0, 0) rfl HW5.out _ Tryd.underlying63 rfl (by rw [List.size_toArray, hw33]; kernel_rfl) ?_))
          go_ret2
          exact HP.out _ HB5.out
        · have Hst := hide (HStep.out (by simp [isIt, hpb]))
          rw [show decide (p.b = wb) = false by simpa using hpb] at hq
          clear hpn hpb HStep
          go_wp2_with (first
            | (refine wpList_load_partw (by rfl) 63 (.tmp 41) rfl B 2 (blkC .u32 p.b) rfl hrb _ Tryd.underlying63 rfl (by rw [h33]; kernel_rfl) ?_)
            | (refine wpList_load_allw (by rfl) 63 (.tmp 9) rfl Wb (blkC .u32 wb).toArray 63 (0, 0) rfl HW5.out _ Tryd.underlying63 rfl (by rw [List.size_toArray, hw33]; kernel_rfl) ?_))
          go_roundw
          case rel => exact ⟨i + 1, by go_num, by omega, Hst.out, HW5.out, HB5.out⟩
          case measure => simp [intOf]; omega
      · have e3 : ((p.n : Int) == (m : Int)) = false := by simp; omega
        have e4 : (p.n == m) = false := by simpa using hpn
        have Hst := hide (HStep.out (by simp [isIt, hpn]))
        clear hpn HStep
        go_wp2
        go_roundw
        case rel => exact ⟨i + 1, by go_num, by omega, Hst.out, HW5.out, HB5.out⟩
        case measure => simp [intOf]; omega
    · obtain rfl : i = n := by omega
      have HP : Hid (∀ u, Below w.heap.size w u → FindP w ps m wb (.returned (.tuple #[.int .i64 0, .bool false])) u) := hide (fun u hu => ⟨0, false, rfl, .inl ⟨rfl, rfl, List.find?_eq_none.2 (fun p hp => by
        have := HNo.out p (by rw [List.take_of_length_le (by rw [← HN.out]; exact Nat.le_refl _)]; exact hp)
        simp [this])⟩, hu⟩)
      have d1 : decide ((i : Int) < (i : Int)) = false := by simp
      clear hi
      go_wp2
      go_ret2
      exact HP.out _ HB.out
end Go.Proofs.YtheambpddpfcfaaDoor.Ko
