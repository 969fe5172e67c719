/- lock: slices.Delete of one ask. -/
import Derived.Test.YtlhjkacdhfchiaaDoorLi
import Derived.Deep.RegionLaw
import Derived.Maps.Range
namespace Go.Proofs.YtlhjkacdhfchiaaDoor.Lj
set_option linter.unusedVariables false
set_option linter.unusedSimpArgs false
set_option maxRecDepth 100000
open Go.ChangeShapes Go.WideShapes Go.ChangeAt Go.RowKit
open Go.Proofs.YtlhjkacdhfchiaaDoor.Wu Go.Proofs.YtlhjkacdhfchiaaDoor.La Go.Proofs.YtlhjkacdhfchiaaDoor.Le Go.Proofs.YtlhjkacdhfchiaaDoor.Lf Go.Proofs.YtlhjkacdhfchiaaDoor.Lg Go.Proofs.YtlhjkacdhfchiaaDoor.Li
theorem rowA_append (A B : List La.Ask) : rowA (A ++ B) = rowA A ++ rowA B := by simp [rowA]
theorem rowA_take (us : List La.Ask) (k : Nat) (hk : k ≤ us.length) : (rowA us).take (k * 2) = rowA (us.take k) := by
  have e : rowA us = rowA (us.take k) ++ rowA (us.drop k) := by rw [← rowA_append, List.take_append_drop]
  rw [e]
  exact List.take_left' (by rw [rowA_length, List.length_take]; omega)
theorem rowA_drop (us : List La.Ask) (k : Nat) (hk : k ≤ us.length) : (rowA us).drop (k * 2) = rowA (us.drop k) := by
  have e : rowA us = rowA (us.take k) ++ rowA (us.drop k) := by rw [← rowA_append, List.take_append_drop]
  rw [e]
  exact List.drop_left' (by rw [rowA_length, List.length_take]; omega)
theorem rowA_one (us : List La.Ask) : ∀ u ∈ rowA us, u.oneCell' = true := by
  intro u hu
  obtain ⟨x, _, hx⟩ := List.mem_flatMap.1 hu
  unfold askC at hx
  rcases List.mem_cons.1 hx with rfl | hx
  · rfl
  · rw [List.mem_singleton.1 hx]; rfl
theorem zero_ask (w : World) : (zeroValue 111).run Tryd.prog w = .ok (.agg #[.int .i64 0, .slice none 0 0]) w := by kernel_rfl
set_option maxHeartbeats 3200000 in
theorem delete_c (g c i m : Nat) (us : List La.Ask) (N : Nat) (w : World) (hn : us.length = i + m + 1) (h : OwnA w N (.slice (some ⟨g, 0, none⟩) us.length c) us) :
    Calls Tryd.prog 47 #[.slice (some ⟨g, 0, none⟩) (i + m + 1) c, .int .i64 (i : Int), .int .i64 ((i : Int) + 1)] w fun e w' => e = .returned (.slice (some ⟨g, 0, none⟩) (i + m) c) ∧ OwnA w' N (.slice (some ⟨g, 0, none⟩) (i + m) c) (us.take i ++ us.drop (i + 1)) ∧ w.grownBy w' (some g) := by
  obtain ⟨h1, h2⟩ := h
  rcases h2 with ⟨hv, -⟩ | ⟨g', cap, cur, hv, hbase, hg, hlc, hmax, hsz, htk⟩
  · cases hv
  injection hv with e1 e2 e3
  injection e1 with e1
  injection e1 with e1
  subst e1 e3
  rw [hn] at hlc htk
  have hc3 : c ≤ 9223372036854775807 := by unfold maxLen at hmax; omega
  obtain ⟨news, hnews⟩ : ∃ news, news = rowA (us.drop (i + 1)) := ⟨_, rfl⟩
  have hlen : news.length = m * 2 := by rw [hnews, rowA_length, List.length_drop]; omega
  have hcl0 : cur.toList.length = c * 2 := by rw [Array.length_toList, hsz]
  obtain ⟨i0, hi0, hz0, hz1, hz2⟩ := info_parts info_ask
  -- where the rest is read
  obtain ⟨A, hA⟩ : ∃ A : Addr, A = if c = i + 1 then ⟨g, 0, none⟩ else ⟨g, (i + 1) * 2, none⟩ := ⟨_, rfl⟩
  have hsrc : Hid (∀ t u, news[t]? = some u → w.drew.cell? (A.add t) = some u) := hide (fun t u hu => by
    have ht := (List.getElem?_eq_some_iff.1 hu).1
    rw [hlen] at ht
    rw [hA, if_neg (by omega), Addr.add_mid]
    rw [hnews, ← rowA_drop us (i + 1) (by omega), List.getElem?_drop] at hu
    have h3 : cur.toList[(i + 1) * 2 + t]? = some u := by
      rw [← htk, List.getElem?_take] at hu
      split at hu
      · exact hu
      · cases hu
    exact blk_cell (w := w.drew) hg (by simpa using h3))
  have s1 : Hid (news.length = m * 2) := hide hlen
  have s2 : Hid (∀ u ∈ news, u.oneCell' = true) := hide (by rw [hnews]; exact rowA_one _)
  have s3 : Hid (∀ t, t < news.length → (w.drew.cell? ⟨g, 0 + i * 2 + t, none⟩).isSome = true ∧ w.drew.frozen? ⟨g, 0 + i * 2 + t, none⟩ = false) := hide (fun t ht => by
    rw [hlen] at ht
    refine ⟨?_, blk_free (w := w.drew) hg⟩
    have hlt : 0 + i * 2 + t < cur.size := by omega
    rw [blk_cell (w := w.drew) hg (Array.getElem?_eq_getElem hlt)]
    rfl)
  obtain ⟨W1, hW1⟩ : ∃ W1, W1 = w.drew.setCells g (0 + i * 2) news := ⟨_, rfl⟩
  obtain ⟨c1, g1, k1⟩ := blk_setCells news (0 + i * 2) w.drew cur hg (by rw [hlen]; omega)
  rw [← hW1] at g1
  have hc1 : c1.toList.length = c * 2 := by
    rw [k1]
    simp only [List.length_append, List.length_take, List.length_drop, hlen, hcl0]
    omega
  have hcs1 : c1.size = c * 2 := by rw [← Array.length_toList, hc1]
  have hclr : ∀ ty, (Builtin.clear_ #[101] ty #[.slice (some ⟨g, (i + m) * 2, none⟩) 1 (c - (i + m))]).run Tryd.prog W1 = .ok (.tuple #[]) (W1.setCells g ((i + m) * 2) [.int .i64 0, .slice none 0 0]) := fun ty =>
    run_clear_two W1 _ 111 ty _ _ Tryd.underlying101 zero_ask rfl rfl rfl rfl g ((i + m) * 2) _ (fun t ht => by
      have hlt : (i + m) * 2 + t < c1.size := by omega
      rw [blk_cell g1 (Array.getElem?_eq_getElem hlt)]; rfl) (fun t ht => blk_free g1)
  obtain ⟨c2, g2, k2⟩ := blk_setCells [.int .i64 0, .slice none 0 0] ((i + m) * 2) W1 c1 g1 (by rw [hcs1]; simp; omega)
  have hG : Hid (w.grownBy (W1.setCells g ((i + m) * 2) [.int .i64 0, .slice none 0 0]) (some g)) := hide (by
    have q0 : w.grownBy w.drew (some g) := ⟨rfl, rfl, rfl, Nat.le_refl _, fun _ _ _ => rfl⟩
    rw [hW1]
    exact (q0.andThen (grown_setCells g _ _ _) (fun j hj => .inr hj)).andThen (grown_setCells g _ _ _) (fun j hj => .inr hj))
  have hO : Hid (OwnA (W1.setCells g ((i + m) * 2) [.int .i64 0, .slice none 0 0]) N (.slice (some ⟨g, 0, none⟩) (i + m) c) (us.take i ++ us.drop (i + 1))) := hide (by
    have hl2 : (us.take i ++ us.drop (i + 1)).length = i + m := by rw [List.length_append, List.length_take, List.length_drop]; omega
    have hc2 : c2.size = c * 2 := by
      rw [← Array.length_toList, k2]
      simp only [List.length_append, List.length_take, List.length_drop, hc1, List.length_cons, List.length_nil]
      omega
    unfold OwnA
    rw [hl2]
    refine ⟨by rw [rowA_length, hl2], .inr ⟨g, c, c2, rfl, hbase, g2, by omega, hmax, hc2, ?_⟩⟩
    rw [k2, List.append_assoc, List.take_left' (by rw [List.length_take, hc1]; omega), k1, rowA_append, ← hnews]
    have e4 : cur.toList.take (0 + i * 2) = rowA (us.take i) := by
      rw [Nat.zero_add, ← rowA_take us i (by omega), ← htk, List.take_take]
      congr 1
      omega
    rw [e4]
    exact List.take_left' (by rw [List.length_append, rowA_length, hlen, List.length_take]; omega))
  have hW : Hid (W1 = w.drew.setCells g (0 + i * 2) news) := hide hW1
  have HA := hide hA
  have d1 : ((i : Int) == (i : Int) + 1) = false := beq_false_of_ne (by omega)
  have j1 : (0 : Int) ≤ (i : Int) := by omega
  have j2 : (0 : Int) ≤ (i : Int) + 1 := by omega
  have j3 : i + m + 1 ≤ c := by omega
  have j4 : i ≤ c := by omega
  have j5 : i + 1 ≤ c := by omega
  have j6 : (i : Int) ≤ (c : Int) := by omega
  have j7 : (i : Int) + 1 ≤ (c : Int) := by omega
  have j8 : (i : Int) + 1 ≤ (i : Int) + (m : Int) + 1 := by omega
  clear hW1 k1 k2 hc1 hcs1 g1 g2 hg htk hnews hlen hcl0 h1 hsz hmax hA
  go_enter Tryd.func47, Tryd.ntmps47
  go_wp2_with fail
  have hA2 : (if c = i + 1 then some (Addr.mk g 0 none) else some (Addr.mk g ((i + 1) * 2) none)) = some A := by rw [HA.out]; split <;> rfl
  go_region_law (refine step_append_room rfl (.tmp 22) (.tmp 25) 101 rfl 111 i0 2 Tryd.underlying101 hi0 hz1 g 0 i c (by simp [Act.eval, Act.put]) A m (c - (i + 1)) news (by simp [Act.eval, Act.put]) s1.out hsrc.out s2.out (by omega) s3.out ?_; rw [← hW.out])
  have hcm : ¬ c = i + m := by omega
  have j9 : (i : Int) + (m : Int) ≤ (i : Int) + (m : Int) + 1 := by omega
  have j10 : (0 : Int) ≤ (i : Int) + (m : Int) := by omega
  have j11 : (i : Int) + (m : Int) + 1 ≤ (c : Int) := by omega
  go_wp2
  go_ret
  exact ⟨rfl, hO.out, hG.out⟩
end Go.Proofs.YtlhjkacdhfchiaaDoor.Lj
