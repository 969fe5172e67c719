/- Of: the sum of parts, one behind the other. -/
import Derived.Test.YtheambpddpfcfaaDoorSf
namespace Go.Proofs.YtheambpddpfcfaaDoor.So
set_option linter.unusedVariables false
set_option linter.unusedSimpArgs false
set_option maxRecDepth 100000
open Go.ChangeShapes Go.WideShapes Go.ChangeAt Go.RowKit
open Go.Proofs.YtheambpddpfcfaaDoor.Wu Go.Proofs.YtheambpddpfcfaaDoor.Sm Go.Proofs.YtheambpddpfcfaaDoor.Sk Go.Proofs.YtheambpddpfcfaaDoor.Sc Go.Proofs.YtheambpddpfcfaaDoor.Sxa Go.Proofs.YtheambpddpfcfaaDoor.Sh Go.Proofs.YtheambpddpfcfaaDoor.Sn Go.Proofs.YtheambpddpfcfaaDoor.Sw0 Go.Proofs.YtheambpddpfcfaaDoor.Sx Go.Proofs.YtheambpddpfcfaaDoor.Sw Go.Proofs.YtheambpddpfcfaaDoor.Sb Go.Proofs.YtheambpddpfcfaaDoor.Sf

/-- A slice of m bytes L: nil, empty, or over cells that are there. -/
def SrcB (w : World) (a : Option Addr) (m : Nat) (L : List Nat) : Prop :=
  L.length = m ∧ All8 L ∧ ∃ b off, (0 < m → a = some ⟨b, off, none⟩) ∧ ∀ i, i < m → w.cell? ⟨b, off + i, none⟩ = some (.int .u8 ((L.getD i 0 : Nat) : Int))
theorem SrcB.nil (w : World) (a : Option Addr) : SrcB w a 0 [] := ⟨rfl, all8_nil, 0, 0, fun h => absurd h (by omega), fun i h => absurd h (by omega)⟩
theorem SrcB.below {w w' : World} {a : Option Addr} {m : Nat} {L : List Nat} (h : SrcB w a m L) (hb : Below w.heap.size w w') : SrcB w' a m L := by
  obtain ⟨h1, h2, b, off, h3, h4⟩ := h
  exact ⟨h1, h2, b, off, h3, fun i hi => keepC hb (Nat.le_refl _) (h4 i hi)⟩
/-- Read in a world that has grown, by a hasher that is new. -/
theorem SrcB.srcN {w w' : World} {a : Option Addr} {m : Nat} {L : List Nat} {g : Nat} (h : SrcB w a m L) (hb : Below w.heap.size w w') (hg : w.heap.size ≤ g) : SrcN w' g a m L := by
  obtain ⟨h1, h2, b, off, h3, h4⟩ := h
  refine ⟨h1, h2, b, off, h3, fun hm => ?_, fun i hi => keepC hb (Nat.le_refl _) (h4 i hi)⟩
  have hl : b < w.heap.size := cell_lt (h4 0 hm)
  omega
/-- A part: where it lies, how many bytes, the capacity, its bytes. -/
structure Part where
  a : Option Addr
  n : Nat
  c : Nat
  L : List Nat
def Part.val (p : Part) : Value := .slice p.a p.n p.c
def Part.ok (w : World) (p : Part) : Prop := SrcB w p.a p.n p.L ∧ p.n ≤ p.c
def flat : List Part → List Nat
  | [] => []
  | p :: ps => p.L ++ flat ps
theorem flat_append (X Y : List Part) : flat (X ++ Y) = flat X ++ flat Y := by
  induction X with
  | nil => rfl
  | cons p ps ih => simp [flat, ih]
theorem flat_snoc (X : List Part) (p : Part) : flat (X ++ [p]) = flat X ++ p.L := by rw [flat_append]; simp [flat]
/-- A slice of parts. -/
def Parts (w : World) (A : Option Addr) (Ps : List Part) : Prop :=
  ∃ b off, (0 < Ps.length → A = some ⟨b, off, none⟩) ∧ ∀ i p, Ps[i]? = some p → w.cell? ⟨b, off + i, none⟩ = some p.val ∧ p.ok w
theorem flat_all {w : World} {A : Option Addr} {Ps : List Part} (h : Parts w A Ps) : All8 (flat Ps) := by
  obtain ⟨b, off, _, h2⟩ := h
  have : ∀ (X : List Part), (∀ p ∈ X, All8 p.L) → All8 (flat X) := by
    intro X
    induction X with
    | nil => intro _; exact all8_nil
    | cons p ps ih => intro hX; exact all8_append (hX p (List.mem_cons_self ..)) (ih fun q hq => hX q (List.mem_cons_of_mem _ hq))
  refine this Ps fun p hp => ?_
  obtain ⟨i, hi, e⟩ := List.mem_iff_getElem.1 hp
  exact (h2 i p (by rw [List.getElem?_eq_getElem hi, e])).2.1.2.1
theorem flat_take_le (Ps : List Part) (k : Nat) : (flat (Ps.take k)).length ≤ (flat Ps).length := by
  have e : flat Ps = flat (Ps.take k) ++ flat (Ps.drop k) := by rw [← flat_append, List.take_append_drop]
  rw [e, List.length_append]; omega
theorem took_nil {w : World} {g : Nat} (h : Hsh w g H0 (zeros 64) 0 0) : Took w g [] := ⟨zeros 64, zeros_length _, all8_zeros 64, rfl, h⟩
theorem Took.below {w w' : World} {g N : Nat} {M : List Nat} (h : Took w g M) (hb : Below N w w') (hg : g < N) : Took w' g M := by
  obtain ⟨B, h1, h2, h3, h4⟩ := h
  exact ⟨B, h1, h2, h3, below_blk hb hg h4⟩
theorem grown_is_below {w w' : World} {g N : Nat} (h : w.grownBy w' (some g)) (hN : N ≤ g) (hs : N ≤ w.heap.size) : Below N w w' :=
  ⟨h.os, h.tape, h.output, h.size, fun k hk => h.block k (by omega) (fun e => by injection e with e; omega)⟩
/-- A sum laid into a new cell of its own. -/
theorem sum_stored (w1 : World) (X : List Nat) (hX : X.length = 32) :
    ((w1.alloc (.cells (u8s (zeros 32)) 61)).setCells w1.heap.size 0 (u8s X).toList).heap[w1.heap.size]? = some (.cells (u8s X) 61 (0, 0)) ∧
    Below w1.heap.size w1 ((w1.alloc (.cells (u8s (zeros 32)) 61)).setCells w1.heap.size 0 (u8s X).toList) :=
  ⟨set_all8 X (zeros 32) (heap_last w1 _) hX, below_setCells _ _ _ _ (below_new _ _) (Nat.le_refl _)⟩
set_option maxHeartbeats 1600000 in
set_option maxRecDepth 100000 in
theorem of_c (A : Option Addr) (cap : Nat) (Ps : List Part) (w : World) (hP : Parts w A Ps) (hT : Tbl w) (hF : Fst w) (hbig : (flat Ps).length ≤ 140737488355328) (hn : Ps.length < 4611686018427387904) :
    Calls Tryd.prog 80 #[.slice A Ps.length cap] w fun e w' => e = .returned (.agg (u8s (sha (flat Ps)))) ∧ Below w.heap.size w w' := by
  have Hall := hide (flat_all hP)
  obtain ⟨b, off, hA, hp⟩ := hP
  have HA := hide hA
  have HP := hide hp
  have HT := hide hT
  have HF := hide hF
  have HFa := hide (fst_keep hF (below_new w (.cells (u8s (zeros 32)) 61)) (Nat.le_refl _))
  have hg1 := tbl_lt hT
  clear hA hp hT hF
  go_enter Tryd.func80, Tryd.ntmps80
  go_wp2_with fail
  rw [zlit8]
  have Hb0 := hide (below_new w (.cells (u8s (zeros 32)) 61))
  have HR0 := hide (heap_last w (.cells (u8s (zeros 32)) 61))
  generalize (w.alloc (.cells (u8s (zeros 32)) 61)) = w0 at *
  refine (newHasher_c w0 HFa.out).mono ?_
  rintro e w1 ⟨rfl, hb1⟩
  have HB1 := hide (keepB hb1 (Nat.le_refl _) Hb0.out)
  have HR1 := hide (below_blk hb1 (heap_lt HR0.out) HR0.out)
  clear hb1 Hb0 HR0 HFa
  have hs1 := heap_lt HR1.out
  have Hz := hide (heap_last w1 (.cells (hcells Z8 (zeros 64) 0 0).toArray 176))
  have hzz := fun v : World => zeroH v
  go_wp2_with (refine wpList_store_mid rfl 176 (.tmp 3) (.tmp 6) rfl w1.heap.size 0 _ rfl rfl ?_ ?_ ?_ ?_)
  · have := there_cells Hz.out
    exact this
  · rw [info74]; rfl
  · exact hcells_one _ _ _ _
  have h3 := blk_setCells (hcells H0 (zeros 64) 0 0) 0 (w1.alloc (.cells (hcells Z8 (zeros 64) 0 0).toArray 176)) (hcells Z8 (zeros 64) 0 0) (by rw [hcells_length, hcells_length]; omega) Hz.out
  rw [show (hcells Z8 (zeros 64) 0 0).take 0 ++ hcells H0 (zeros 64) 0 0 ++ (hcells Z8 (zeros 64) 0 0).drop (0 + (hcells H0 (zeros 64) 0 0).length) = hcells H0 (zeros 64) 0 0 from rfl] at h3
  have Hb2 : Hid (Below w1.heap.size w1 ((w1.alloc (.cells (hcells Z8 (zeros 64) 0 0).toArray 176)).setCells w1.heap.size 0 (hcells H0 (zeros 64) 0 0))) := below_setCells _ _ _ _ (below_new _ _) (Nat.le_refl _)
  have HTk := hide (took_nil h3)
  have HB2 := hide (keepB Hb2.out (Nat.le_refl _) HB1.out)
  have HR2 := hide (below_blk Hb2.out hs1 HR1.out)
  clear h3 Hb2 HB1 HR1 Hz hzz
  generalize ((w1.alloc (.cells (hcells Z8 (zeros 64) 0 0).toArray 176)).setCells w1.heap.size 0 (hcells H0 (zeros 64) 0 0)) = w2 at *
  generalize w1.heap.size = G at *
  as_aux_lemma =>
    go_loopw [9, 5] (fun i _ wr => ∃ k : Nat, k ≤ Ps.length ∧ i = .int .i64 k ∧ Took wr G (flat (Ps.take k)) ∧ wr.heap[w.heap.size]? = some (.cells (u8s (zeros 32)) 61 (0, 0)) ∧ Below w.heap.size w wr) (fun i _ _ => Ps.length - (intOf i).toNat)
    case atStart => exact ⟨0, by omega, rfl, HTk.out, HR2.out, HB2.out⟩
    case round =>
      clear HTk HR2 HB2
      obtain ⟨k, hk, rfl, h1, h2, h3⟩ := hrel
      have H1 := hide h1
      have H2 := hide h2
      have HB := hide h3
      have HTw := hide (tbl_keep HT.out h3 (Nat.le_refl _))
      clear h1 h2 h3
      by_cases hlt : k < Ps.length
      · obtain ⟨p, hpk⟩ : ∃ p, Ps[k]? = some p := ⟨Ps[k], List.getElem?_eq_getElem hlt⟩
        obtain ⟨hc, hsrc, hpc⟩ := HP.out k p hpk
        have hcw : wr.cell? ⟨b, off + k, none⟩ = some (.slice p.a p.n p.c) := keepC HB.out (Nat.le_refl _) hc
        obtain rfl := HA.out (by omega)
        have HSn := hide (hsrc.srcN (g := G) HB.out (by omega))
        have Hf : Hid (flat (Ps.take (k + 1)) = flat (Ps.take k) ++ p.L) := by
          show _ = _
          rw [← flat_snoc, List.take_add_one, hpk]; rfl
        have hlen := flat_take_le Ps (k + 1)
        rw [Hf.out, List.length_append, hsrc.1] at hlen
        have hd : decide ((k : Int) < (Ps.length : Int)) = true := by simp; omega
        clear hpk hc hsrc
        go_wp2_with fail
        refine (write_c G _ _ p.n p.c p.L wr H1.out HTw.out HSn.out hpc (by omega) (by omega)).mono ?_
        rintro e w3 ⟨rfl, hT3, hG3⟩
        have HT3 := hide hT3
        have Hb3 := hide (grown_is_below hG3 (N := w.heap.size) (by omega) HB.out.size)
        have H23 := hide ((hG3.block _ (heap_lt H2.out) (fun e => by injection e; omega)).trans H2.out)
        clear hT3 hG3 hcw
        go_wp2
        go_roundw
        case rel => exact ⟨k + 1, by omega, by go_num, by rw [Hf.out]; exact HT3.out, H23.out, HB.out.trans Hb3.out⟩
        case measure => simp [intOf]; omega
      · have hkl : k = Ps.length := by omega
        subst hkl
        have hd : decide ((Ps.length : Int) < (Ps.length : Int)) = false := by simp
        have H1' := H1.out
        rw [List.take_length] at H1'
        have HTK := hide H1'
        clear H1 H1'
        go_wp2_with fail
        refine (finish_c G (flat Ps) wr HTK.out HTw.out Hall.out (by omega) hbig).mono ?_
        rintro e w3 ⟨rfl, hG3⟩
        have Hb3 := hide (grown_is_below hG3 (N := w.heap.size) (by omega) HB.out.size)
        have H23 := hide ((hG3.block _ (heap_lt H2.out) (fun e => by injection e; omega)).trans H2.out)
        have HB3 := hide (HB.out.trans Hb3.out)
        clear hG3 Hb3
        obtain ⟨X, hX⟩ : ∃ X, X = sha (flat Ps) := ⟨_, rfl⟩
        have HX := hide hX
        have hXl : X.length = 32 := by rw [hX]; rfl
        rw [← hX]
        clear hX
        have HXl := hide hXl
        clear hXl
        have ht := hide (there8 H23.out)
        go_wp2_with (refine wpList_store_mid rfl 61 (.tmp 2) (.tmp 16) rfl w.heap.size 0 _ rfl rfl ?_ ?_ ?_ ?_)
        · rw [u8s_size, HXl.out]; exact ht.out
        · rw [infoS, u8s_size, HXl.out]
        · exact u8s_one _
        have e := set_all8 X (zeros 32) H23.out HXl.out
        have hb : Below w.heap.size w (w3.setCells w.heap.size 0 (u8s X).toList) := below_setCells _ _ _ _ HB3.out (Nat.le_refl _)
        go_wp2_with fail
        refine bodyPost_ret (v := .agg (u8s X)) ?_ rfl ⟨by rw [HX.out], hb⟩
        rw [results_one_cell Tryd.results80]
        have h4 := run_loadVar_mid (P := Tryd.prog) (w3.setCells w.heap.size 0 (u8s X).toList) w.heap.size 0 61 (u8s X).toList _ (range8_all e) Tryd.underlying61 rfl (by rw [infoS]; simp [u8s_size, HXl.out])
        rw [Array.toArray_toList] at h4
        simpa [asAddr, Act.put] using h4
end Go.Proofs.YtheambpddpfcfaaDoor.So
