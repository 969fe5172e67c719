/- path.Check, out of strings.Split's contract. -/
import Derived.Test.YtlhjkacdhfchiaaDoorPc
import Derived.Test.YtlhjkacdhfchiaaDoorPl
namespace Go.Proofs.YtlhjkacdhfchiaaDoor.Pd
set_option linter.unusedVariables false
set_option linter.unusedSimpArgs false
set_option maxRecDepth 100000
open Go.ChangeShapes Go.WideShapes Go.RowKit
open Go.Proofs.YtlhjkacdhfchiaaDoor.Wu Go.Proofs.YtlhjkacdhfchiaaDoor.Pm Go.Proofs.YtlhjkacdhfchiaaDoor.Pc Go.Proofs.YtlhjkacdhfchiaaDoor.Pl
/-- A text of bytes. -/
def bs (l : List UInt8) : ByteArray := ⟨l.toArray⟩
theorem bs_data (l : List UInt8) : (bs l).data.toList = l := by simp [bs]
theorem bs_toList (l : List UInt8) : (bs l).toList = l := by rw [Lib.toList_data, bs_data]
theorem bs_size (l : List UInt8) : (bs l).size = l.length := by rw [Lib.size_eq, bs_data]
theorem bs_of (s : ByteArray) : bs s.data.toList = s := rfl
theorem bs_map (L : List ByteArray) (G : List (List UInt8)) (h : L.map (·.data.toList) = G) : L = G.map bs := by
  rw [← h, List.map_map]
  have : (bs ∘ fun x : ByteArray => x.data.toList) = id := by funext x; rfl
  rw [this, List.map_id]
theorem hi9 : (Tryd.prog.info? 9).map (fun i => (i.zero, i.size, i.bytes)) = some (some (.string ByteArray.empty), 1, 16) := by kernel_rfl
/-- The cells of the pieces. -/
def cellsP (l : List UInt8) : Array Value := ((segs l).map fun g => Value.string (bs g)).toArray
set_option maxHeartbeats 1000000 in
theorem split_c (l : List UInt8) (w : World) (hl : l.length < 4294967281) :
    Calls Tryd.prog 106 #[.string (bs l), .string ⟨#[47]⟩] w fun e w' =>
      e = .returned (.slice (some ⟨w.heap.size, 0, none⟩) (segs l).length (segs l).length) ∧ w' = w.alloc (.cells (cellsP l) 9) := by
  have hsep : (1 : Nat) ≤ (⟨#[47]⟩ : ByteArray).size := Nat.le_refl _
  have hle := Lib.countB_le ⟨#[47]⟩ hsep (bs l).size (bs l) (Nat.le_refl _)
  have hlen := Lib.splitB_all ⟨#[47]⟩ hsep 0 _ (bs l) rfl
  have hsg := bs_map _ _ (splitB_segs (bs l))
  rw [bs_data] at hsg
  have hn : (segs l).length = Lib.countB (bs l) ⟨#[47]⟩ + 1 := by
    rw [← hlen, hsg, List.length_map]
  have c := Any.strings_genSplit_core lay221 hi9 (bs l) ⟨#[47]⟩ 0 (-1) (Lib.countB (bs l) ⟨#[47]⟩ + 1) w (by rw [bs_size]; exact hl) hsep (Nat.zero_le _)
    (fun x c hx => (Any.strings_Index_one (L := { lay221 with }) x 47 _).mono fun e w' ⟨he, hw⟩ => ⟨by rw [he, ← Lib.index_one], hw⟩)
    ((Any.strings_Count_one (L := { lay221 with }) (bs l) 47 w).mono fun e w' ⟨he, hw⟩ => ⟨by rw [he, show Lib.countB (bs l) ⟨#[47]⟩ = Lib.countByte (bs l).data.toList 47 from Lib.count_one _ _], hw⟩) (by decide) (by decide) (by rw [if_pos (by decide)]; omega)
  rw [Nat.add_sub_cancel, hlen] at c
  have e2 : Lib.cellsOf (Lib.splitB ⟨#[47]⟩ 0 (Lib.countB (bs l) ⟨#[47]⟩) (bs l)) (Lib.countB (bs l) ⟨#[47]⟩ + 1) = cellsP l := by
    rw [← hlen, Lib.cellsOf_full, hsg, List.map_map]
    rfl
  rw [e2, ← hn] at c
  have c' : Calls Tryd.prog 121 #[.string (bs l), .string ⟨#[47]⟩, .int .i64 0, .int .i64 (-1)] w fun e w' => e = .returned (.slice (some ⟨w.heap.size, 0, none⟩) (segs l).length (segs l).length) ∧ w' = w.alloc (.cells (cellsP l) 9) := c
  clear c hle hlen hsg hn e2
  generalize (segs l).length = n at *
  generalize cellsP l = C at *
  go_enter Tryd.func106, Tryd.ntmps106
  go_wp2_with (go_at_call 121; refine c'.mono ?_; rintro e w' ⟨rfl, hw⟩; rw [hw])
  go_ret
  exact ⟨rfl, rfl⟩
/-- An error with the path's number, or none. -/
def Chk (w : World) (r : Option Nat) (e : Ending) (w' : World) : Prop :=
  (r = none ∧ e = .returned .nilIface ∨ ∃ p b, r = some p ∧ e = .returned (.iface 96 (.pointer (some ⟨b, 0, none⟩))) ∧ w'.heap[b]? = some (.cells #[.int .i64 ((p : Nat) : Int), .int .i64 90] 30 (0, 0))) ∧ Below w.heap.size w w'
theorem cellsP_at (l : List UInt8) (i : Nat) (g : List UInt8) (h : (segs l)[i]? = some g) : (cellsP l)[i]? = some (.string (bs g)) := by
  simp [cellsP, h]
theorem flawP_none {g : List UInt8} (h : flawP g = none) : g.length ≤ 16 := by
  unfold flawP at h
  split at h
  · cases h
  · omega
theorem flaw_bs (g : List UInt8) (w : World) (hg : g.length ≤ 9223372036854775807) : Calls Tryd.prog 107 #[.string (bs g)] w fun e w' => e = .returned (flawV g) ∧ w' = w := by
  have h := flaw_c (bs g) w (by rw [bs_size]; exact hg)
  rw [bs_data] at h
  exact h
theorem segs_len {l g : List UInt8} {i : Nat} (h : (segs l)[i]? = some g) : g.length ≤ l.length := by
  have : ∀ (n : Nat) (l : List UInt8), l.length ≤ n → ∀ g ∈ segs l, g.length ≤ l.length := by
    intro n
    induction n with
    | zero =>
      intro l hl g hg
      obtain rfl : l = [] := List.length_eq_zero_iff.1 (by omega)
      simp [segs] at hg
      subst hg; exact Nat.le_refl _
    | succ n ih =>
      intro l hl g hg
      rw [segs_at] at hg
      simp only [List.mem_cons] at hg
      rcases hg with rfl | hg
      · rw [List.length_take]; omega
      · split at hg
        · have := ih _ (by rw [List.length_drop]; omega) g hg
          rw [List.length_drop] at this
          omega
        · cases hg
  exact this _ l (Nat.le_refl _) g (List.mem_of_getElem? h)
theorem segs_length (l : List UInt8) : (segs l).length ≤ l.length + 1 := by
  induction l with
  | nil => exact Nat.le_refl _
  | cons c l ih =>
    rw [segs_cons]
    split
    · simp only [List.length_cons]; omega
    · split
      · simp
      · rename_i h
        rw [h] at ih
        simp only [List.length_cons] at *; omega
theorem chk_step {st i : Nat} {G : List (List UInt8)} {g : List UInt8} (h : G[i]? = some g) : chk st i (G.drop i) = if i = 6 then some st else match flawP g with
    | some a => some (st + a)
    | none => chk (st + g.length + 1) (i + 1) (G.drop (i + 1)) := by
  have hlt := (List.getElem?_eq_some_iff.1 h).1
  have hg := (List.getElem?_eq_some_iff.1 h).2
  rw [List.drop_eq_getElem_cons hlt, hg]
  rfl
set_option maxHeartbeats 3200000 in
theorem check_c (l : List UInt8) (w : World) (hl : l.length ≤ 9223372036854775807) : Calls Tryd.prog 75 #[.string (bs l)] w (Chk w (check l)) := by
  have hsz := bs_size l
  have htl := bs_toList l
  by_cases h0 : l = []
  · have HP : Hid (check l = some 0) := hide (by unfold check; rw [if_pos h0])
    have e0 : ((bs l).toList == []) = true := by rw [htl, h0]; rfl
    have HH := hide (heap_last w (.cells #[.int .i64 0, .int .i64 90] 30))
    have HB := hide (below_new w (.cells #[.int .i64 0, .int .i64 90] 30))
    clear htl
    generalize bs l = B at *
    go_enter Tryd.func75, Tryd.ntmps75
    go_wp2
    go_ret
    exact ⟨.inr ⟨0, _, HP.out, rfl, HH.out⟩, HB.out⟩
  have e0 : ((bs l).toList == []) = false := by rw [htl]; cases l with | nil => exact absurd rfl h0 | cons => rfl
  by_cases h1 : 64 < l.length
  · have HP : Hid (check l = some 64) := hide (by unfold check; rw [if_neg h0, if_pos h1])
    have HH := hide (heap_last w (.cells #[.int .i64 64, .int .i64 90] 30))
    have HB := hide (below_new w (.cells #[.int .i64 64, .int .i64 90] 30))
    clear htl
    generalize bs l = B at *
    go_enter Tryd.func75, Tryd.ntmps75
    go_wp2
    go_ret
    exact ⟨.inr ⟨64, _, HP.out, rfl, HH.out⟩, HB.out⟩
  have HP : Hid (check l = chk 0 0 (segs l)) := hide (by unfold check; rw [if_neg h0, if_neg h1])
  have HC := hide (split_c l w (by omega))
  have HW := hide (heap_last w (.cells (cellsP l) 9))
  have HB := hide (below_new w (.cells (cellsP l) 9))
  have HAt := hide (cellsP_at l)
  have HLen := hide (fun (i : Nat) (g : List UInt8) (h : (segs l)[i]? = some g) => segs_len h)
  have hGl := segs_length l
  generalize segs l = G at *
  generalize cellsP l = C at *
  clear htl
  generalize bs l = B at *
  have hGn : G.length ≤ 9223372036854775807 := by omega
  go_enter Tryd.func75, Tryd.ntmps75
  go_wp2_with fail
  refine HC.out.mono ?_
  rintro e w' ⟨rfl, hw⟩
  rw [hw]
  clear hw e0 HC
  generalize w.alloc (.cells C 9) = w2 at *
  go_wp2_with fail
  go_loop [24, 3] (fun vi vs => ∃ i st : Nat, vi = .int .i64 (i : Int) ∧ vs = .int .i64 (st : Int) ∧ i ≤ G.length ∧ i ≤ 6 ∧ st ≤ i * 17 ∧ Hid (check l = chk st i (G.drop i))) (fun vi _ => G.length - (intOf vi).toNat)
  case atStart => exact ⟨0, 0, rfl, rfl, Nat.zero_le _, by omega, by omega, HP⟩
  case round =>
    obtain ⟨i, st, rfl, rfl, hi, hi6, hst, HK⟩ := hrel
    by_cases hlt : i < G.length
    · obtain ⟨g, hg⟩ : ∃ g, G[i]? = some g := ⟨G[i], List.getElem?_eq_getElem hlt⟩
      have hc : w2.cell? ⟨w.heap.size, 0 + i, none⟩ = some (.string (bs g)) := by rw [Nat.zero_add]; exact blk_cell HW.out (HAt.out i g hg)
      rw [Nat.zero_add] at hc
      have hgl := HLen.out i g hg
      have HS := hide (HK.out.trans (chk_step hg))
      have HF := hide (flaw_bs g w2 (by omega))
      have hgs := bs_size g
      clear HK
      by_cases h6 : i = 6
      · subst h6
        have HH := hide (heap_last w2 (.cells #[.int .i64 (st : Int), .int .i64 90] 30))
        have HB2 := hide (keepB (below_new w2 (.cells #[.int .i64 (st : Int), .int .i64 90] 30)) (Nat.le_refl _) HB.out)
        go_wp2
        go_ret
        exact ⟨.inr ⟨st, _, by rw [HS.out]; simp, rfl, HH.out⟩, HB2.out⟩
      · have hi6' : i < 6 := by omega
        have hs2 := HS.out
        rw [if_neg h6] at hs2
        cases hf : flawP g with
        | some a =>
          have hal := flawP_le hf
          have HV : Hid (flawV g = .tuple #[.int .i64 (a : Int), .bool true]) := hide (by unfold flawV; rw [hf]; rfl)
          rw [hf] at hs2
          have HS2 := hide hs2
          have HH := hide (heap_last w2 (.cells #[.int .i64 ((st : Int) + (a : Int)), .int .i64 90] 30))
          have HB2 := hide (keepB (below_new w2 (.cells #[.int .i64 ((st : Int) + (a : Int)), .int .i64 90] 30)) (Nat.le_refl _) HB.out)
          clear hs2 HS hf
          go_wp2_with fail
          refine HF.out.mono ?_
          rintro e w' ⟨rfl, rfl⟩
          rw [HV.out]
          go_wp2
          go_ret
          exact ⟨.inr ⟨st + a, _, HS2.out, rfl, by simpa using HH.out⟩, HB2.out⟩
        | none =>
          have hal := flawP_none hf
          have HV : Hid (flawV g = .tuple #[.int .i64 0, .bool false]) := hide (by unfold flawV; rw [hf]; rfl)
          rw [hf] at hs2
          have HS2 := hide hs2
          clear hs2 HS hf
          go_wp2_with fail
          refine HF.out.mono ?_
          rintro e w' ⟨rfl, rfl⟩
          rw [HV.out]
          go_wp2
          go_round
          case rel => exact ⟨i + 1, st + g.length + 1, by go_num, by go_num, by omega, by omega, by omega, HS2⟩
          case measure => simp [intOf]; omega
    · have hie : i = G.length := by omega
      have HN : Hid (check l = none) := hide (by rw [HK.out, hie, List.drop_length]; rfl)
      go_wp2
      go_ret
      exact ⟨.inl ⟨HN.out, rfl⟩, HB.out⟩
end Go.Proofs.YtlhjkacdhfchiaaDoor.Pd
