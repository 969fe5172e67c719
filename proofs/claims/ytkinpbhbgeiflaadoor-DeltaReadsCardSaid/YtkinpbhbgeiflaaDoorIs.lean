/- slices.Insert on bytes: in place. -/
import Derived.Test.YtkinpbhbgeiflaaDoorBz
import Derived.Shelf.Spec.SlicesInsert
namespace Go.Proofs.YtkinpbhbgeiflaaDoor.Is
set_option linter.unusedVariables false
set_option linter.unusedSimpArgs false
set_option maxRecDepth 100000
open Go.ChangeShapes Go.WideShapes Go.ChangeAt Go.RowKit
open Go.Proofs.YtkinpbhbgeiflaaDoor.Wu Go.Proofs.YtkinpbhbgeiflaaDoor.Sm Go.Proofs.YtkinpbhbgeiflaaDoor.Sh Go.Proofs.YtkinpbhbgeiflaaDoor.Ba Go.Proofs.YtkinpbhbgeiflaaDoor.Bp Go.Proofs.YtkinpbhbgeiflaaDoor.Bz
theorem sz1 : (Tryd.prog.info? 5).map (·.size) = some 1 := by kernel_rfl
theorem z1 (w : World) : (Go.sizeOf 5).run Tryd.prog w = .ok 1 w := by
  obtain ⟨i0, hi0, hz0, hz1, hz2⟩ := info_parts info_bs
  simp [sizeOf, typeInfo, hi0, hz1]
/-- The cells of a row with its spare room are there, and none is frozen. -/
theorem Dst.all_there {w : World} {g n cap : Nat} {L : List Nat} (h : Dst w g n cap L) (j : Nat) (hj : j < cap) : (w.cell? ⟨g, j, none⟩).isSome = true := by
  by_cases hn : j < n
  · rw [h.cell hn]; rfl
  · have := (h.spare (j - n) (by omega)).1
    rwa [show n + (j - n) = j by omega] at this
theorem over {w : World} {g n cap vb m vc : Nat} {L V : List Nat} (hd : Dst w g n cap L) (hv : Dst w vb m vc V) (hne : vb ≠ g) (hm : 0 < m) (hn : 0 < n) (o lb cb : Nat) :
    (callFunc 130 #[.slice (some ⟨vb, 0, none⟩) m vc, .slice (some ⟨g, o, none⟩) lb cb]).run Tryd.prog w = .ok (.value (.bool false)) w := by
  obtain ⟨tA, kA, hsa, hkA, -⟩ := World.shape?_of_cell? (hv.cell hm)
  obtain ⟨tB, kB, hsb, hkB, -⟩ := World.shape?_of_cell? (hd.cell hn)
  rw [run_callFunc_extern Tryd.func130 (by kernel_rfl) (by kernel_rfl) (by kernel_rfl) (e := Extern.SlicesOverlaps.overlaps #[22, 22] #[4]) (by kernel_rfl),
    Lib.run_overlaps_apart w 22 4 5 Tryd.underlying22 1 z1 ⟨vb, 0, none⟩ ⟨g, o, none⟩ m vc lb cb hne tA tB kA kB hsa hsb (by simp only at hkB; omega) (hv.free _) (hv.free _)]
  rfl
set_option maxHeartbeats 4000000 in
set_option maxRecDepth 100000 in
theorem insert_shift (g n cap i vb m vc : Nat) (A S V : List Nat) (w : World) (hd : Dst w g n cap (A ++ S)) (hv : Dst w vb m vc V) (hne : vb ≠ g) (hm : 0 < m) (hi : A.length = i) (hlt : i < n) (hroom : n + m ≤ cap) :
    Calls Tryd.prog 119 #[.slice (some ⟨g, 0, none⟩) n cap, .int .i64 (i : Int), .slice (some ⟨vb, 0, none⟩) m vc] w fun e w' =>
      e = .returned (.slice (some ⟨g, 0, none⟩) (n + m) cap) ∧ w' = (w.drew.setCells g (i + m) (b8 S)).setCells g i (b8 V) := by
  have hmx := hd.max
  have hl := hd.len
  rw [List.length_append] at hl
  unfold maxLen at hmx
  have HV := hide (over hd hv hne hm (by omega))
  have hvl := hv.len
  have HD := hide hd
  have HVd := hide hv
  clear hd hv
  have e1 : ¬ ((m : Int) = 0) := by omega
  have e2 : ¬ ((i : Int) = (n : Int)) := by omega
  have e3 : ¬ ((cap : Int) < (n : Int) + (m : Int)) := by omega
  have e4 : IntKind.i64.wrap ((i : Int) + (m : Int)) = (i : Int) + (m : Int) := by rw [IntKind.wrap_i64]; omega
  have e5 : (0 : Int) ≤ (i : Int) + (m : Int) := by omega
  have e6 : ((i : Int) + (m : Int)).toNat = i + m := by omega
  have e7 : ¬ (cap = i + m) := by omega
  have e8 : ¬ (cap = i) := by omega
  have e9 : (i : Int) ≤ (n : Int) + (m : Int) := by omega
  have e10 : i ≤ n := by omega
  have HC1 : Hid (∀ ty dc sc, (Builtin.copy_ #[22, 22] ty #[.slice (some ⟨g, i + m, none⟩) (n + m - (i + m)) dc, .slice (some ⟨g, i, none⟩) (n + m - i) sc]).run Tryd.prog w.drew = .ok (goInt (b8 S).length) (w.drew.setCells g (i + m) (b8 S))) := hide (fun ty dc sc => by
    refine run_copy_cells w.drew _ _ ty 5 g (i + m) (n + m - (i + m)) dc ⟨g, i, none⟩ (n + m - i) sc (b8 S) Tryd.underlying22 sz1 ?_ ?_ ?_ ?_ (b8_one S)
    · rw [b8_length]; simp only [Nat.min_def]; split <;> omega
    · intro j v hj
      rw [Addr.add_lit]
      have := HD.out.cells (i + j) v (by
        unfold b8 at hj ⊢
        rw [List.map_append, List.getElem?_append_right (by simp; omega)]
        rw [← hj]
        congr 1
        simp
        omega)
      rwa [Nat.zero_add] at this
    · intro j hj
      rw [b8_length] at hj
      exact Dst.all_there HD.out _ (by omega)
    · intro j hj
      exact HD.out.free _)
  have HC2 : Hid (∀ ty dc, (Builtin.copy_ #[22, 22] ty #[.slice (some ⟨g, i, none⟩) (n + m - i) dc, .slice (some ⟨vb, 0, none⟩) m vc]).run Tryd.prog (w.drew.setCells g (i + m) (b8 S)) = .ok (goInt (b8 V).length) ((w.drew.setCells g (i + m) (b8 S)).setCells g i (b8 V))) := hide (fun ty dc => by
    refine run_copy_cells _ _ _ ty 5 g i (n + m - i) dc ⟨vb, 0, none⟩ m vc (b8 V) Tryd.underlying22 sz1 ?_ ?_ ?_ ?_ (b8_one V)
    · rw [b8_length]; simp only [Nat.min_def]; split <;> omega
    · intro j v hj
      rw [Addr.add_lit, World.cell?_setCells_out g _ _ _ _ (fun h _ => absurd h hne)]
      exact HVd.out.cells j v hj
    · intro j hj
      rw [b8_length] at hj
      exact isSome_setCells g _ _ _ (fun j' hj' => by rw [b8_length] at hj'; exact Dst.all_there HD.out _ (by omega)) _ (Dst.all_there HD.out _ (by omega))
    · intro j hj
      rw [World.frozen?_setCells]
      exact HD.out.free _)
  go_enter Tryd.func119, Tryd.ntmps119
  go_wp2_with fail
  rw [HV.out]
  go_wp2_with fail
  have mixed : Tryd.prog.follows Departure.mixedOrders = true := by kernel_rfl
  have hc1 := HC1.out 3 (cap - (i + m)) (cap - i)
  go_region
  clear hc1
  have hc2 := HC2.out 3 (cap - i)
  go_wp2
  go_ret
  exact ⟨rfl, rfl⟩
end Go.Proofs.YtkinpbhbgeiflaaDoor.Is
