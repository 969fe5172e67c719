/- wordOf, bytesOf, schedule. -/
import Derived.Test.YtheambpddpfcfaaDoorSk
import Derived.Deep.RegionHeld3
import Derived.Deep.MidRow
import Derived.Deep.RegionWith
namespace Go.Proofs.YtheambpddpfcfaaDoor.Sc
set_option linter.unusedVariables false
set_option linter.unusedSimpArgs false
set_option maxRecDepth 100000
open Go.ChangeShapes Go.WideShapes Go.ChangeAt Go.RowKit
open Go.Proofs.YtheambpddpfcfaaDoor.Wu Go.Proofs.YtheambpddpfcfaaDoor.Sm Go.Proofs.YtheambpddpfcfaaDoor.Sk

theorem or_add (a b k : Nat) (hb : b < 2 ^ k) : a * 2 ^ k ||| b = a * 2 ^ k + b := by
  rw [← Nat.shiftLeft_eq, ← Nat.shiftLeft_add_eq_or_of_lt hb]
theorem wd_is (a b c d : Nat) (ha : a < 256) (hb : b < 256) (hc : c < 256) (hd : d < 256) :
    bits .or .u32 (bits .or .u32 (bits .or .u32 ((a : Int) * 16777216) ((b : Int) * 65536)) ((c : Int) * 256)) (d : Int) = (wd a b c d : Int) := by
  have e1 : bits .or .u32 ((a : Int) * 16777216) ((b : Int) * 65536) = ((a * 16777216 + b * 65536 : Nat) : Int) := by
    have := u32_or_nat (a * 16777216) (b * 65536) (by omega) (by omega)
    have h := or_add a (b * 65536) 24 (by omega)
    rw [show (2 : Nat) ^ 24 = 16777216 by decide] at h
    rw [h] at this
    simpa using this
  have e2 : bits .or .u32 ((a * 16777216 + b * 65536 : Nat) : Int) ((c : Int) * 256) = ((a * 16777216 + b * 65536 + c * 256 : Nat) : Int) := by
    have := u32_or_nat (a * 16777216 + b * 65536) (c * 256) (by omega) (by omega)
    have h := or_add (a * 256 + b) (c * 256) 16 (by omega)
    rw [show (2 : Nat) ^ 16 = 65536 by decide, show (a * 256 + b) * 65536 = a * 16777216 + b * 65536 by omega] at h
    rw [h] at this
    simpa using this
  rw [e1, e2, u32_or_nat _ _ (by omega) (by omega)]
  have h := or_add (a * 65536 + b * 256 + c) d 8 (by omega)
  rw [show (2 : Nat) ^ 8 = 256 by decide, show (a * 65536 + b * 256 + c) * 256 = a * 16777216 + b * 65536 + c * 256 by omega] at h
  rw [h]
  rfl
theorem wordOf_c (B off cap a b c d : Nat) (w : World) (ha : a < 256) (hb : b < 256) (hc : c < 256) (hd : d < 256)
    (h0 : w.cell? ⟨B, off, none⟩ = some (.int .u8 (a : Int))) (h1 : w.cell? ⟨B, off + 1, none⟩ = some (.int .u8 (b : Int))) (h2 : w.cell? ⟨B, off + 2, none⟩ = some (.int .u8 (c : Int))) (h3 : w.cell? ⟨B, off + 3, none⟩ = some (.int .u8 (d : Int))) :
    Calls Tryd.prog 131 #[.slice (some ⟨B, off, none⟩) 4 cap] w fun e w' => e = .returned (.int .u32 (wd a b c d : Int)) ∧ ∃ n, w' = w.drewN n := by
  have H := hide (wd_is a b c d ha hb hc hd)
  go_enter Tryd.func131, Tryd.ntmps131
  go_wp2
  go_quiet (fail)
  go_wp2
  go_ret
  refine ⟨?_, nq, rfl⟩
  show Ending.returned (.int .u32 (bits .or .u32 (bits .or .u32 (bits .or .u32 ((a : Int) * 16777216) ((b : Int) * 65536)) ((c : Int) * 256)) (d : Int))) = _
  rw [H.out]

/-- Numbers as the cells of a row. -/
def u8s (L : List Nat) : Array Value := (L.map fun x : Nat => Value.int .u8 (x : Int)).toArray
def u32s (L : List Nat) : Array Value := (L.map fun x : Nat => Value.int .u32 (x : Int)).toArray
theorem u8s_size (L : List Nat) : (u8s L).size = L.length := by simp [u8s]
theorem u32s_size (L : List Nat) : (u32s L).size = L.length := by simp [u32s]
theorem u8s_at (L : List Nat) (i : Nat) (h : i < L.length) : (u8s L)[i]? = some (.int .u8 ((L.getD i 0 : Nat) : Int)) := by simp [u8s, List.getD, h]
theorem u32s_at (L : List Nat) (i : Nat) (h : i < L.length) : (u32s L)[i]? = some (.int .u32 ((L.getD i 0 : Nat) : Int)) := by simp [u32s, List.getD, h]
theorem u32s_set (L : List Nat) (i x : Nat) : (u32s L).setIfInBounds i (.int .u32 (x : Int)) = u32s (L.set i x) := by simp [u32s, List.map_set]
theorem u8s_set (L : List Nat) (i x : Nat) : (u8s L).setIfInBounds i (.int .u8 (x : Int)) = u8s (L.set i x) := by simp [u8s, List.map_set]

theorem alen64 : Tryd.prog.arrayLen 173 = 64 := by simp [Program.arrayLen, Tryd.underlying173]
theorem aelem64 : Tryd.prog.elem 173 = 5 := by simp [Program.elem, Tryd.underlying173]
theorem size_u8 (u : World) : Sem.run Tryd.prog (Go.sizeOf 5) u = .ok 1 u := by kernel_rfl
theorem slice64 (u : World) (B o : Nat) (l h : Int) (L H : Nat) (el : l = (L : Int)) (eh : h = (H : Int)) (hl : L ≤ H) (hh : H ≤ 64) (hne : L < 64) :
    Sem.run Tryd.prog (Instr.sliceAt 173 (.pointer (some ⟨B, o, none⟩)) (some (.int .i64 l)) (some (.int .i64 h)) none) u = .ok (.slice (some ⟨B, o + L, none⟩) (H - L) (64 - L)) u := by
  subst el eh
  rw [run_sliceAt_array_lh u 173 ⟨B, o, none⟩ (by rw [alen64, aelem64]; exact Tryd.underlying173) .i64 .i64 _ _ (by omega) (by omega) (by rw [alen64]; omega), aelem64, size_u8, alen64]
  simp only [Result.andThen, slicedAt, Int.toNat_natCast, Nat.mul_one]
  rw [if_neg (by omega), Addr.add_mid]
theorem heap_3c (w : World) (o p q : Obj) : (((w.alloc o).alloc p).alloc q).heap[w.heap.size + 1 + 1]? = some q := by
  have := heap_last ((w.alloc o).alloc p) q
  simpa [World.size_alloc] using this
/-- A block's list of cells behind a store of a row into it. -/
theorem blk_setCells {T : TypeId} {f : Nat × Nat} {B : Nat} : ∀ (vs : List Value) (o : Nat) (w : World) (xs : List Value), o + vs.length ≤ xs.length → w.heap[B]? = some (.cells xs.toArray T f) →
    (w.setCells B o vs).heap[B]? = some (.cells (xs.take o ++ vs ++ xs.drop (o + vs.length)).toArray T f)
  | [], o, w, xs, _, h => by simp [World.setCells, h]
  | v :: vs, o, w, xs, hl, h => by
    rw [World.setCells]
    have h1 := blk_set (i := o) h v
    rw [List.setIfInBounds_toArray] at h1
    have h2 := blk_setCells vs (o + 1) _ (xs.set o v) (by simp at *; omega) h1
    rw [h2]
    simp only [List.length_cons] at hl ⊢
    congr 3
    rw [List.set_eq_take_append_cons_drop, if_pos (by omega)]
    have hA : (xs.take o).length = o := by rw [List.length_take]; omega
    have e1 : (xs.take o ++ v :: xs.drop (o + 1)).take (o + 1) = xs.take o ++ [v] := by
      rw [List.take_append, hA, List.take_of_length_le (by omega), show o + 1 - o = 1 by omega]; rfl
    have e2 : (xs.take o ++ v :: xs.drop (o + 1)).drop (o + 1 + vs.length) = xs.drop (o + (vs.length + 1)) := by
      rw [List.drop_append, hA, List.drop_eq_nil_of_le (by omega), show o + 1 + vs.length - o = vs.length + 1 by omega, List.drop_succ_cons, List.drop_drop, List.nil_append]
      congr 1; omega
    rw [e1, e2]
    simp
theorem below_setCells {N : Nat} {u : World} : ∀ (vs : List Value) (B o : Nat) (w : World), Below N u w → N ≤ B → Below N u (w.setCells B o vs)
  | [], _, _, _, h, _ => h
  | v :: vs, B, o, w, h, hB => by
    rw [World.setCells]
    exact below_setCells vs B (o + 1) _ (h.setCell hB _) hB
theorem results_one_cell {fn : Func} {p : Tmp} {ty : TypeId} (h : fn.results = #[.cell p ty]) (tmps : Array Value) (P : Program) (w : World) :
    (results fn tmps).run P w = ((asAddr (tmps.getD p undef)).run P w).andThen fun a w₁ => (loadVar ty a).run P w₁ := by
  simp only [results, h]
  simp [Sem.run_bind, Result.andThen]
theorem nxt_is (a b c d : Nat) (ha : a < 4294967296) (hb : b < 4294967296) (hc : c < 4294967296) (hd : d < 4294967296) :
    IntKind.u32.wrap (IntKind.u32.wrap (IntKind.u32.wrap ((a : Int) + (b : Int)) + (c : Int)) + (d : Int)) = (((a + b + c + d) % 4294967296 : Nat) : Int) := by
  simp only [IntKind.wrap_u32']
  omega
/-- The cells of a row of words. -/
theorem row32 {w : World} {B i : Nat} {X : List Nat} {T : TypeId} {f : Nat × Nat} (h : w.heap[B]? = some (.cells (u32s X) T f)) (hi : i < X.length) : w.cell? ⟨B, i, none⟩ = some (.int .u32 ((X.getD i 0 : Nat) : Int)) := blk_cell h (u32s_at X i hi)
theorem row8 {w : World} {B i : Nat} {X : List Nat} {T : TypeId} {f : Nat × Nat} (h : w.heap[B]? = some (.cells (u8s X) T f)) (hi : i < X.length) : w.cell? ⟨B, i, none⟩ = some (.int .u8 ((X.getD i 0 : Nat) : Int)) := blk_cell h (u8s_at X i hi)
theorem info62 : (Tryd.prog.info? 216).map (·.size) = some 64 := by kernel_rfl
theorem u32s_one (X : List Nat) : (u32s X).all (·.oneCell') = true := by
  unfold u32s
  exact all_oneCell_toArray (fun v hv => by simp only [List.mem_map] at hv; obtain ⟨z, _, rfl⟩ := hv; rfl)
theorem rangeAt_all {w : World} {B : Nat} {X : List Nat} {T : TypeId} {f : Nat × Nat} (h : w.heap[B]? = some (.cells (u32s X) T f)) : w.rangeAt B 0 (u32s X).toList := fun j v hv => by
  rw [Nat.zero_add]; exact blk_cell h (by simpa using hv)
theorem there_all {w : World} {B : Nat} {X : List Nat} {T : TypeId} (h : w.heap[B]? = some (.cells (u32s X) T (0, 0))) : w.there B 0 X.length := fun j hj =>
  ⟨by rw [Nat.zero_add, row32 h hj]; rfl, blk_free h⟩

theorem keep4s {W : World} {B i a b c d : Nat} {v v1 v2 v3 v4 : Value} (h1 : a ≠ i) (h2 : b ≠ i) (h3 : c ≠ i) (h4 : d ≠ i)
    (h : W.cell? ⟨B, a, none⟩ = some v1 ∧ W.cell? ⟨B, b, none⟩ = some v2 ∧ W.cell? ⟨B, c, none⟩ = some v3 ∧ W.cell? ⟨B, d, none⟩ = some v4) :
    (W.setCell ⟨B, i, none⟩ v).cell? ⟨B, a, none⟩ = some v1 ∧ (W.setCell ⟨B, i, none⟩ v).cell? ⟨B, b, none⟩ = some v2 ∧ (W.setCell ⟨B, i, none⟩ v).cell? ⟨B, c, none⟩ = some v3 ∧ (W.setCell ⟨B, i, none⟩ v).cell? ⟨B, d, none⟩ = some v4 := by
  exact ⟨(World.cell?_setCell_other W ⟨B, i, none⟩ ⟨B, a, none⟩ _ (fun hh => h1 (congrArg Addr.off hh).symm)).trans h.1, (World.cell?_setCell_other W ⟨B, i, none⟩ ⟨B, b, none⟩ _ (fun hh => h2 (congrArg Addr.off hh).symm)).trans h.2.1,
    (World.cell?_setCell_other W ⟨B, i, none⟩ ⟨B, c, none⟩ _ (fun hh => h3 (congrArg Addr.off hh).symm)).trans h.2.2.1, (World.cell?_setCell_other W ⟨B, i, none⟩ ⟨B, d, none⟩ _ (fun hh => h4 (congrArg Addr.off hh).symm)).trans h.2.2.2⟩
set_option maxHeartbeats 1600000 in
theorem schedule_c (L : List Nat) (w : World) (hl : L.length = 64) (h8 : All8 L) :
    Calls Tryd.prog 121 #[.agg (u8s L)] w fun e w' => e = .returned (.agg (u32s (sched L))) ∧ Below w.heap.size w w' := by
  have HL := hide hl
  clear hl
  go_enter Tryd.func121, Tryd.ntmps121
  go_wp2_with fail
  go_loopw [6, 4] (fun i _ wr => ∃ k : Nat, k ≤ 16 ∧ i = .int .i64 k ∧ wr.heap[w.heap.size]? = some (.cells (u8s L) 173 (0, 0)) ∧ wr.heap[w.heap.size + 1]? = some (.cells (u32s (List.replicate 64 0)) 216 (0, 0)) ∧ wr.heap[w.heap.size + 1 + 1]? = some (.cells (u32s ((W16 L).take k ++ List.replicate (64 - k) 0)) 216 (0, 0)) ∧ Below w.heap.size w wr) (fun i _ _ => 16 - (intOf i).toNat)
  case atStart => exact ⟨0, by omega, rfl, heap_old (heap_2a _ _ _) _, heap_old (heap_2b _ _ _) _, heap_3c _ _ _ _, (((Below.refl _ _).alloc (Nat.le_refl _) _).alloc (by simp) _).alloc (by simp; omega) _⟩
  case round =>
    obtain ⟨k, hk, rfl, h0, h1, h2, hbel⟩ := hrel
    have H0 := hide h0
    have H1 := hide h1
    have H2 := hide h2
    have HB := hide hbel
    clear h0 h1 h2 hbel
    by_cases hlt : k < 16
    · have hlt' : decide ((k : Int) < 16) = true := by simp; omega
      have hsl := fun (u : World) => slice64 u w.heap.size 0 (4 * (k : Int)) (4 * (k : Int) + 4) (4 * k) (4 * k + 4) (by omega) (by omega) (by omega) (by omega) (by omega)
      rw [show 4 * k + 4 - 4 * k = 4 by omega] at hsl
      go_wp2_with fail
      clear hsl
      refine (wordOf_c w.heap.size (4 * k) _ (L.getD (4 * k) 0) (L.getD (4 * k + 1) 0) (L.getD (4 * k + 2) 0) (L.getD (4 * k + 3) 0) _ (all8_getD h8 _) (all8_getD h8 _) (all8_getD h8 _) (all8_getD h8 _) (row8 H0.out (by rw [HL.out]; omega)) (row8 H0.out (by rw [HL.out]; omega)) (row8 H0.out (by rw [HL.out]; omega)) (row8 H0.out (by rw [HL.out]; omega))).mono ?_
      rintro e w1 ⟨rfl, nd, rfl⟩
      have Hlen : Hid (((W16 L).take k).length = k) := by unfold Hid; rw [List.length_take, W16_length]; omega
      have hcx := row32 (i := k) H2.out (by rw [List.length_append, Hlen.out, List.length_replicate]; omega)
      have hfx := blk_free (i := k) H2.out
      have HS := hide (blk_set (w := wr.drewN nd) (i := k) H2.out (.int .u32 (w16 L k : Int)))
      generalize (List.take k (W16 L) ++ List.replicate (64 - k) 0).getD k 0 = old at *
      have hk1 : (k : Int) < 64 := by omega
      have hk0 : (0 : Int) ≤ (k : Int) := by omega
      go_wp2
      go_roundw
      case rel =>
        refine ⟨k + 1, by omega, by go_num, blk_set_other (w := wr.drewN nd) H0.out (by omega) _, blk_set_other (w := wr.drewN nd) H1.out (by omega) _, ?_, (below_drewN HB.out nd).setCell (by simp; omega) _⟩
        have e := HS.out
        rw [u32s_set] at e
        have e2 : (List.take k (W16 L) ++ List.replicate (64 - k) 0).set k (w16 L k) = List.take (k + 1) (W16 L) ++ List.replicate (64 - (k + 1)) 0 := by
          have g := set_grow (List.take k (W16 L)) (64 - (k + 1)) (w16 L k)
          rw [Hlen.out, show 64 - (k + 1) + 1 = 64 - k by omega] at g
          rw [g, W16_take L k hlt]
        rw [e2] at e
        exact e
      case measure => simp [intOf]; omega
    · have hkl : k = 16 := by omega
      subst hkl
      have h2 := H2.out
      rw [List.take_of_length_le (by rw [W16_length]; omega)] at h2
      have H2' := hide h2
      clear h2 H2
      have z2 := heap_lt H2'.out
      go_wp2_with fail
      rw [show ((16 : Nat) : Int) = 16 from rfl]
      obtain ⟨wo, rfl⟩ : ∃ wo : World, wo = wr := ⟨_, rfl⟩
      go_loopw [5] (fun i wr => ∃ k : Nat, k ≤ 48 ∧ i = .int .i64 ((16 + k : Nat) : Int) ∧ wr.heap[w.heap.size + 1]? = some (.cells (u32s (List.replicate 64 0)) 216 (0, 0)) ∧ wr.heap[w.heap.size + 1 + 1]? = some (.cells (u32s (ext k (W16 L) ++ List.replicate (48 - k) 0)) 216 (0, 0)) ∧ Below w.heap.size w wr) (fun i _ => 64 - (intOf i).toNat)
      case atStart => exact ⟨0, by omega, rfl, H1.out, H2'.out, HB.out⟩
      case round =>
        clear H0 H1 H2' HB z2
        obtain ⟨k, hk, rfl, h1, h2, hbel⟩ := hrel
        have H1 := hide h1
        have H2 := hide h2
        have HB := hide hbel
        clear h1 h2 hbel
        have hx32 := ext_all (W16_all h8) k
        have Hlx : Hid ((ext k (W16 L)).length = 16 + k) := by unfold Hid; rw [ext_length, W16_length]
        by_cases hlt : k < 48
        · have hal : (ext k (W16 L) ++ List.replicate (48 - k) 0).length = 64 := by rw [List.length_append, Hlx.out, List.length_replicate]; omega
          have c2 := row32 (i := 14 + k) H2.out (by omega)
          have c7 := row32 (i := 9 + k) H2.out (by omega)
          have c15 := row32 (i := 1 + k) H2.out (by omega)
          have c16 := row32 (i := k) H2.out (by omega)
          have cst := row32 (i := 16 + k) H2.out (by omega)
          have hfx := blk_free (i := 16 + k) H2.out
          rw [getD_left _ _ _ (by rw [Hlx.out]; omega)] at c2 c7 c15 c16
          have b2 := all32_getD hx32 (14 + k)
          have b7 := all32_getD hx32 (9 + k)
          have b15 := all32_getD hx32 (1 + k)
          have b16 := all32_getD hx32 k
          have HN : Hid ((lS1 ((ext k (W16 L)).getD (14 + k) 0) + (ext k (W16 L)).getD (9 + k) 0 + lS0 ((ext k (W16 L)).getD (1 + k) 0) + (ext k (W16 L)).getD k 0) % 4294967296 = nxt (ext k (W16 L))) := by
            unfold Hid nxt
            rw [Hlx.out, show 16 + k - 2 = 14 + k by omega, show 16 + k - 7 = 9 + k by omega, show 16 + k - 15 = 1 + k by omega, show 16 + k - 16 = k by omega]
          have HS := hide (blk_set (w := wr.drew) (i := 16 + k) H2.out (.int .u32 (nxt (ext k (W16 L)) : Int)))
          have Hg := hide (set_grow (ext k (W16 L)) (48 - (k + 1)) (nxt (ext k (W16 L))))
          generalize (ext k (W16 L)).getD (14 + k) 0 = a2 at *
          generalize (ext k (W16 L)).getD (9 + k) 0 = a7 at *
          generalize (ext k (W16 L)).getD (1 + k) 0 = a15 at *
          generalize (ext k (W16 L)).getD k 0 = a16 at *
          generalize (ext k (W16 L) ++ List.replicate (48 - k) 0).getD (16 + k) 0 = old at *
          have Hni := hide (nxt_is (lS1 a2) a7 (lS0 a15) a16 (lS1_lt b2) b7 (lS0_lt b15) b16)
          obtain ⟨j, hj⟩ : ∃ j, j = 16 + k := ⟨_, rfl⟩
          rw [← hj] at cst hfx HS ⊢
          have Hj := hide hj
          have hjb : 16 ≤ j := by omega
          have hjb' : j < 64 := by omega
          rw [show 14 + k = j - 2 by omega] at c2
          rw [show 9 + k = j - 7 by omega] at c7
          rw [show 1 + k = j - 15 by omega] at c15
          rw [show k = j - 16 by omega] at c16
          clear hj hal
          go_wp2_with fail
          have i2 : IntKind.i64.wrap ((j : Int) - 2) = (j : Int) - 2 := IntWalk.i64_in _ (by omega)
          have i7 : IntKind.i64.wrap ((j : Int) - 7) = (j : Int) - 7 := IntWalk.i64_in _ (by omega)
          have i15 : IntKind.i64.wrap ((j : Int) - 15) = (j : Int) - 15 := IntWalk.i64_in _ (by omega)
          have i16 : IntKind.i64.wrap ((j : Int) - 16) = (j : Int) - 16 := IntWalk.i64_in _ (by omega)
          have t2 : ((j : Int) - 2).toNat = j - 2 := by omega
          have t7 : ((j : Int) - 7).toNat = j - 7 := by omega
          have t15 : ((j : Int) - 15).toNat = j - 15 := by omega
          have t16 : ((j : Int) - 16).toNat = j - 16 := by omega
          have n2 : (0 : Int) ≤ (j : Int) - 2 := by omega
          have n7 : (0 : Int) ≤ (j : Int) - 7 := by omega
          have n15 : (0 : Int) ≤ (j : Int) - 15 := by omega
          have n16 : (0 : Int) ≤ (j : Int) - 16 := by omega
          have m2 : (j : Int) - 2 < 64 := by omega
          have m7 : (j : Int) - 7 < 64 := by omega
          have m15 : (j : Int) - 15 < 64 := by omega
          have m16 : (j : Int) - 16 < 64 := by omega
          have p2 : (2 : Int) ≤ (j : Int) := by omega
          have p7 : (7 : Int) ≤ (j : Int) := by omega
          have p15 : (15 : Int) ≤ (j : Int) := by omega
          have p16 : (16 : Int) ≤ (j : Int) := by omega
          have r2 : (2 : Nat) ≤ j := by omega
          have r7 : (7 : Nat) ≤ j := by omega
          have r15 : (15 : Nat) ≤ j := by omega
          have n0 : (0 : Int) ≤ (j : Int) := by omega
          have m0 : (j : Int) < 64 := by omega
          go_region_held3 (fun u => u.cell? ⟨w.heap.size + 1 + 1, j - 2, none⟩ = some (.int .u32 (a2 : Int)) ∧ u.cell? ⟨w.heap.size + 1 + 1, j - 7, none⟩ = some (.int .u32 (a7 : Int)) ∧ u.cell? ⟨w.heap.size + 1 + 1, j - 15, none⟩ = some (.int .u32 (a15 : Int)) ∧ u.cell? ⟨w.heap.size + 1 + 1, j - 16, none⟩ = some (.int .u32 (a16 : Int)))
            (first | exact ⟨c2, c7, c15, c16⟩ | assumption | (exact keep4s (by omega) (by omega) (by omega) (by omega) (by assumption)))
            (first
              | (go_at_call 132; refine (lS1_c a2 _ b2).mono ?_; rintro e u ⟨rfl, rfl⟩)
              | (go_at_call 133; refine (lS0_c a15 _ b15).mono ?_; rintro e u ⟨rfl, rfl⟩))
          rw [Hni.out, HN.out]
          clear i2 i7 i15 i16 t2 t7 t15 t16 c2 c7 c15 c16 cst hfx
          go_wp2
          go_roundw
          case rel =>
            refine ⟨k + 1, by omega, congrArg (Value.int .i64) (by have := Hj.out; omega), blk_set_other (w := wr.drew) H1.out (by omega) _, ?_, (HB.out.drew).setCell (by simp; omega) _⟩
            have e := HS.out
            rw [u32s_set] at e
            have g := Hg.out
            rw [Hlx.out, ← Hj.out, show 48 - (k + 1) + 1 = 48 - k by omega] at g
            rw [g] at e
            exact e
          case measure => simp [intOf]; have := Hj.out; omega
        · have hkl : k = 48 := by omega
          subst hkl
          have h2 := H2.out
          rw [show 48 - 48 = 0 by omega, List.replicate_zero, List.append_nil] at h2
          have hr := hide (rangeAt_all h2)
          have ht := hide (there_all H1.out)
          have Hs := hide (sched_length L)
          have H1' := hide (blk_setCells (u32s (sched L)).toList 0 wr (u32s (List.replicate 64 0)).toList (by simp [u32s_size, sched_length]) (by simpa using H1.out))
          have HB' := hide (below_setCells (u32s (sched L)).toList (w.heap.size + 1) 0 wr HB.out (by omega))
          clear h2 hx32
          go_wp2_with (first
            | (refine wpList_load_mid rfl 216 (.tmp 3) rfl (w.heap.size + 1 + 1) 0 rfl _ _ hr.out Tryd.underlying216 rfl (by rw [info62]; simp [u32s_size, ext_length, W16_length]) ?_)
            | (refine wpList_store_mid rfl 216 (.tmp 2) (.tmp 46) rfl (w.heap.size + 1) 0 _ rfl rfl ?_ ?_ ?_ ?_))
          · have := ht.out
            simpa [u32s_size, ext_length, W16_length] using this
          · rw [info62]; simp [u32s_size, ext_length, W16_length]
          · simpa using u32s_one (ext 48 (W16 L))
          · have e : (u32s (ext 48 (W16 L))).toList.toArray.toList = (u32s (sched L)).toList := by simp [sched]
            rw [e]
            refine bodyPost_ret (v := .agg (u32s (sched L))) ?_ rfl ⟨rfl, HB'.out⟩
            rw [results_one_cell Tryd.results121]
            have h3 := H1'.out
            rw [show (u32s (List.replicate 64 0)).toList.take 0 ++ (u32s (sched L)).toList ++ (u32s (List.replicate 64 0)).toList.drop (0 + (u32s (sched L)).toList.length) = (u32s (sched L)).toList by simp [u32s_size, sched_length]] at h3
            have h4 := run_loadVar_mid (P := Tryd.prog) (wr.setCells (w.heap.size + 1) 0 (u32s (sched L)).toList) (w.heap.size + 1) 0 216 (u32s (sched L)).toList _ (rangeAt_all (by simpa using h3)) Tryd.underlying216 rfl (by rw [info62]; simp [u32s_size, sched_length])
            simpa [asAddr, Act.put] using h4
end Go.Proofs.YtheambpddpfcfaaDoor.Sc
