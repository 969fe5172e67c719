/- Texts of bytes: each is one of numbers; a text turned into a slice of bytes. -/
import Derived.Test.YtkinpbhbgeiflaaDoorQg
import Derived.Lib.ConvBytes
namespace Go.Proofs.YtkinpbhbgeiflaaDoor.Ab
set_option linter.unusedVariables false
set_option linter.unusedSimpArgs false
set_option maxRecDepth 100000
open Go.RowKit
open Go.Proofs.YtkinpbhbgeiflaaDoor.Wu Go.Proofs.YtkinpbhbgeiflaaDoor.Sm Go.Proofs.YtkinpbhbgeiflaaDoor.Sh Go.Proofs.YtkinpbhbgeiflaaDoor.Ba Go.Proofs.YtkinpbhbgeiflaaDoor.Bp Go.Proofs.YtkinpbhbgeiflaaDoor.Bs
theorem strN_of (s : ByteArray) : ∃ L : List Nat, All8 L ∧ s = strN L ∧ L.length = s.size := by
  refine ⟨s.data.toList.map UInt8.toNat, ?_, ?_, by rw [List.length_map, Array.length_toList]; rfl⟩
  · intro x hx
    obtain ⟨y, _, rfl⟩ := List.mem_map.1 hx
    exact y.toNat_lt
  · apply ByteArray.ext
    apply Array.toList_inj.1
    unfold strN
    rw [strOfNums_data]
    simp only [List.map_map]
    rw [show ((fun n : Int => UInt8.ofNat n.toNat) ∘ (fun x : Nat => (x : Int)) ∘ UInt8.toNat) = id from by
      funext y; simp]
    simp
theorem strN_data (L : List Nat) : (strN L).data.toList = L.map UInt8.ofNat := by
  unfold strN
  rw [strOfNums_data, List.map_map]
  congr 1
theorem conv_str (L : List Nat) (h8 : All8 L) (w : World) (hl : L.length ≤ 1000000) :
    ∃ cap w', Sem.run Tryd.prog (convert 9 22 (.string (strN L))) w = .ok (.slice (some ⟨w.heap.size, 0, none⟩) L.length cap) w' ∧ SrcB w' (some ⟨w.heap.size, 0, none⟩) L.length L ∧ L.length ≤ cap ∧ Below w.heap.size w w' ∧ w'.heap.size = w.heap.size + 1 := by
  have hr := Lib.run_convert_string_bytes (P := Tryd.prog) w 9 22 5 (strN L) Tryd.underlying9 Tryd.underlying22 Tryd.underlying5
  have hge := grownCap_ge w (strN L).size 0 5
  rw [strN_size] at hr hge
  refine ⟨_, _, hr, ⟨rfl, h8, w.heap.size, 0, fun _ => rfl, fun i hi => ?_⟩, hge, ?_, Lib.bytesWorld_size _ _ _⟩
  · have h1 := Lib.bytesWorld_cell w 5 (strN L) i (by rw [strN_size]; exact hi)
    rw [Nat.zero_add, h1, strN_data]
    have h2 := all8_getD h8 i
    congr 2
    simp only [List.getD, List.getElem?_map]
    rw [List.getElem?_eq_getElem hi]
    simp
    have : L[i] < 256 := h8 _ (List.getElem_mem hi)
    omega
  · have hd : Below w.heap.size w (w.drew.alloc (.cells (Lib.bytesCells w 5 (strN L)) 5)) := (Below.refl _ _).drew.alloc (Nat.le_refl _) _
    refine ⟨?_, ?_, ?_, ?_, fun k hk => Lib.bytesWorld_at_old w 5 (strN L) k hk⟩
    · rfl
    · rfl
    · rfl
    · rw [Lib.bytesWorld_size]; omega
end Go.Proofs.YtkinpbhbgeiflaaDoor.Ab
