/- append that leaves the row it began with; code.Num behind a row that stays. -/
import Derived.Test.YtpaijhmbfljfmaaDoorIg
import Derived.Test.YtpaijhmbfljfmaaDoorCy
namespace Go.Proofs.YtpaijhmbfljfmaaDoor.Bk
set_option linter.unusedVariables false
set_option linter.unusedSimpArgs false
set_option maxRecDepth 100000
open Go.ChangeShapes Go.WideShapes Go.ChangeAt Go.RowKit
open Go.Proofs.YtpaijhmbfljfmaaDoor.Wu Go.Proofs.YtpaijhmbfljfmaaDoor.Sm Go.Proofs.YtpaijhmbfljfmaaDoor.Sh Go.Proofs.YtpaijhmbfljfmaaDoor.Ba Go.Proofs.YtpaijhmbfljfmaaDoor.Bp Go.Proofs.YtpaijhmbfljfmaaDoor.Bq Go.Proofs.YtpaijhmbfljfmaaDoor.Bz Go.Proofs.YtpaijhmbfljfmaaDoor.Ig Go.Proofs.YtpaijhmbfljfmaaDoor.Cm Go.Proofs.YtpaijhmbfljfmaaDoor.Cn Go.Proofs.YtpaijhmbfljfmaaDoor.Cy
set_option maxRecDepth 100000 in
theorem append_keep (w : World) (ty : TypeId) (g n cap : Nat) (L : List Nat) (A : Option Addr) (m c : Nat) (L' : List Nat) (hd : Dst w g n cap L) (hs : SrcB w A m L') (hbig : n + m ≤ 70368744177664) (hc : A = none → m = 0) :
    ∃ g' cap' w', (Builtin.append_ #[31, 31] ty #[.slice (some ⟨g, 0, none⟩) n cap, .slice A m c]).run Tryd.prog w = .ok (.slice (some ⟨g', 0, none⟩) (n + m) cap') w' ∧
      Dst w' g' (n + m) cap' (L ++ L') ∧ Dst w' g n cap L ∧ w.grownBy w' (some g) ∧ (g' = g ∧ cap' = cap ∨ g' = w.heap.size ∧ Below w.heap.size w w') := by
  obtain ⟨i0, hi0, hz0, hz1, hz2⟩ := info_parts info_bs
  obtain ⟨hl, h8, b, off, ha, hcell⟩ := hs
  cases A with
  | none =>
    obtain rfl := hc rfl
    obtain rfl : L' = [] := List.length_eq_zero_iff.1 hl
    exact ⟨g, cap, w, append_none w ty g n cap c hd.fit, by simpa using hd, hd, World.grownBy.refl w _, .inl ⟨rfl, rfl⟩⟩
  | some ad =>
    have hnews : ∀ j u, (b8 L')[j]? = some u → w.cell? (ad.add j) = some u := by
      intro j u hu
      obtain ⟨hj, rfl⟩ := b8_at hu
      have := ha (by omega)
      injection this with this
      subst this
      rw [Addr.add_mid]
      exact hcell j (by omega)
    by_cases hroom : n + m ≤ cap
    · have hr := run_append_room_cells (P := Tryd.prog) w 31 ty 5 i0 Tryd.underlying31 hi0 g 0 n cap ad m c (b8 L') (by rw [b8_length, hl, hz1, Nat.mul_one]) hnews (b8_one L') hroom
        (fun j hj => by rw [hz1, Nat.mul_one, Nat.zero_add]; exact (hd.spare j (by rw [b8_length] at hj; omega)).1) (fun j hj => by rw [hz1, Nat.mul_one, Nat.zero_add]; exact (hd.spare j (by rw [b8_length] at hj; omega)).2)
      rw [hz1, Nat.mul_one, Nat.zero_add] at hr
      obtain ⟨h1, h2⟩ := dst_set hd L' h8 (by rw [hl]; exact hroom)
      rw [hl] at h1
      exact ⟨g, cap, _, hr, h1, Dst.take h1 hd.len, h2, .inl ⟨rfl, rfl⟩⟩
    · have hr := run_append_grow (P := Tryd.prog) w 31 ty 5 i0 (.int .u8 0) Tryd.underlying31 hi0 hz0 ⟨g, 0, none⟩ n cap (b8 L) (by rw [b8_length, hd.len, hz1, Nat.mul_one]) (fun j v hv => by rw [Addr.add_mid]; exact hd.cells j v hv) ad m c (b8 L') (by rw [b8_length, hl, hz1, Nat.mul_one]) hnews (by omega) (by omega) (growslice_fits (by omega) (by rw [hz2]; omega))
      have hge := grownCap_ge w (n + m) cap 5
      have hle := grownCap_le_maxLen w (n + m) cap 5 (by unfold maxLen; omega)
      generalize grownCap w (n + m) cap 5 = q at hr hge hle
      have hzs : (Builtin.zeroCells (Value.int .u8 0).cells (q - (n + m))).size = q - (n + m) := by rw [size_zeroCells]; simp [Value.cells]
      generalize Builtin.zeroCells (Value.int .u8 0).cells (q - (n + m)) = Z at hr hzs
      have e : (b8 L).toArray ++ (b8 L').toArray = (b8 (L ++ L')).toArray := by unfold b8; rw [List.map_append]; simp
      rw [e] at hr
      have hn := dst_new w.drew (L ++ L') Z 5 (0, 0) rfl (all8_append hd.all h8) (by rw [List.length_append, hd.len, hl, hzs]; omega)
      rw [List.length_append, hd.len, hl, hzs, show n + m + (q - (n + m)) = q by omega] at hn
      have hB : Below w.heap.size w (w.drew.alloc (.cells ((b8 (L ++ L')).toArray ++ Z) 5 (0, 0))) := (Below.refl _ _).drew.alloc (Nat.le_refl _) _
      exact ⟨w.heap.size, q, _, hr, hn, hd.below hB hd.lt, ⟨rfl, rfl, rfl, by simp, fun k hk _ => Below.heap_alloc w.drew _ k hk⟩, .inr ⟨rfl, hB⟩⟩
/-- A row 'cur' that begins with A, in A's own block or in a new one; A stays as it was. -/
def Keep (w wr : World) (g i cap : Nat) (A : List Nat) (v : Value) (cur : List Nat) : Prop :=
  ∃ g1 n1 c1 B, cur = A ++ B ∧ v = .slice (some ⟨g1, 0, none⟩) n1 c1 ∧ Dst wr g1 n1 c1 cur ∧ Dst wr g i cap A ∧ w.grownBy wr (some g) ∧ (g1 = g ∧ c1 = cap ∨ w.heap.size ≤ g1 ∧ g1 ≠ g)
theorem Keep.start {w : World} {g i cap : Nat} {A : List Nat} (hd : Dst w g i cap A) : Keep w w g i cap A (.slice (some ⟨g, 0, none⟩) i cap) A :=
  ⟨g, i, cap, [], (List.append_nil A).symm, rfl, hd, hd, World.grownBy.refl w _, .inl ⟨rfl, rfl⟩⟩
theorem Keep.up {w wr wr' : World} {g i cap : Nat} {A cur : List Nat} {v : Value} (h : Keep w wr g i cap A v cur) (hb : Below wr.heap.size wr wr') : Keep w wr' g i cap A v cur := by
  obtain ⟨g1, n1, c1, B, h1, h2, h3, h4, h5, h6⟩ := h
  refine ⟨g1, n1, c1, B, h1, h2, h3.below hb h3.lt, h4.below hb h4.lt, ⟨hb.os.trans h5.os, hb.tape.trans h5.tape, hb.output.trans h5.output, Nat.le_trans h5.size hb.size, fun k hk hne => ?_⟩, h6⟩
  exact (hb.block k (Nat.lt_of_lt_of_le hk h5.size)).trans (h5.block k hk hne)
theorem Keep.form {w wr : World} {g i cap : Nat} {A cur : List Nat} {v : Value} (h : Keep w wr g i cap A v cur) : ∃ a c, v = .slice a cur.length c ∧ SrcB wr a cur.length cur ∧ Dst wr g i cap A ∧ w.grownBy wr (some g) := by
  obtain ⟨g1, n1, c1, B, h1, h2, h3, h4, h5, h6⟩ := h
  have := h3.len
  subst this
  exact ⟨_, c1, h2, h3.src, h4, h5⟩
theorem append_kept (w wr : World) (ty : TypeId) (g i cap : Nat) (A cur : List Nat) (v : Value) (a : Option Addr) (m c : Nat) (L' : List Nat) (hk : Keep w wr g i cap A v cur) (hs : SrcB wr a m L') (hbig : cur.length + m ≤ 70368744177664) (hc : a = none → m = 0) :
    ∃ v' w', (Builtin.append_ #[31, 31] ty #[v, .slice a m c]).run Tryd.prog wr = .ok v' w' ∧ Keep w w' g i cap A v' (cur ++ L') := by
  obtain ⟨g1, n1, c1, B, h1, rfl, h3, h4, h5, h6⟩ := hk
  have hn := h3.len
  obtain ⟨g', cap', w', hr, hd', hd1, hg, hor⟩ := append_keep wr ty g1 n1 c1 cur a m c L' h3 hs (by omega) hc
  have hz := h5.size
  refine ⟨_, w', hr, g', n1 + m, cap', B ++ L', by rw [h1, List.append_assoc], rfl, hd', ?_, ?_, ?_⟩
  · by_cases e : g1 = g
    · subst e
      have hcc : c1 = cap := by
        rcases h6 with h6 | h6
        · exact h6.2
        · exact absurd rfl h6.2
      subst hcc
      rw [h1] at hd1
      exact Dst.take hd1 h4.len
    · exact h4.kept hg (Ne.symm e)
  · refine ⟨hg.os.trans h5.os, hg.tape.trans h5.tape, hg.output.trans h5.output, Nat.le_trans h5.size hg.size, fun k hk hne => ?_⟩
    refine (hg.block k (by omega) (fun e => ?_)).trans (h5.block k hk hne)
    injection e with e
    rcases h6 with h6 | h6
    · exact hne (by rw [e, h6.1])
    · have := h6.1; omega
  · rcases hor with ⟨rfl, rfl⟩ | ⟨rfl, _⟩
    · exact h6
    · exact .inr ⟨hz, by have := h4.lt; omega⟩
/-- append as a step of the walk. -/
theorem wpList_append_kept {w wr : World} {ops : Array Oper} {rest : List Oper} {o : Oper} {a : Act} {Q : Exit → Act → World → Prop} (hgd : o.guard = none) (s x : Operand)
    (ho : o.op = .call { callee := .builtin .append, args := #[s, x], argTypes := #[31, 31] }) (v : Value) (g i cap : Nat) (A cur : List Nat) (ad : Option Addr) (m c : Nat) (L' : List Nat)
    (hs : a.eval s = v) (hx : a.eval x = .slice ad m c) (hk : Keep w wr g i cap A v cur) (hsrc : SrcB wr ad m L') (hbig : cur.length + m ≤ 70368744177664) (hc : ad = none → m = 0)
    (h : ∀ v' w', Hid (Keep w w' g i cap A v' (cur ++ L')) → Hid (wpList Tryd.prog ops Q rest (a.put o.dst v') w')) : wpList Tryd.prog ops Q (o :: rest) a wr := by
  obtain ⟨v', w', hrun, h1⟩ := append_kept w wr o.type g i cap A cur v ad m c L' hk hsrc hbig hc
  refine wpList_plain hgd fun K hK => ?_
  unfold Oper.wp
  simp [execOp, ho, resolve, invoke, builtin, hs, hx, hrun, Result.andThen]
  exact hK _ _ (h v' w' h1)
set_option maxHeartbeats 1600000 in
theorem num_mid (g i cap : Nat) (A : List Nat) (z : Int) (n : Nat) (w : World) (hd : Dst w g i cap A) (hL : A.length ≤ 1000000) (hz : min (max z 0) 1099511627776 = (n : Int)) (hn : n ≤ 1099511627776) :
    Calls Tryd.prog 48 #[.slice (some ⟨g, 0, none⟩) i cap, .int .i64 z] w fun e w' => ∃ v', e = .returned v' ∧ Keep w w' g i cap A v' (A ++ numL n) := by
  have HK := hide (Keep.start hd)
  clear hd
  have d3 := numL_six n hn
  go_enter Tryd.func48, Tryd.ntmps48
  go_wp2_with fail
  go_loopw [0, 1] (fun b m wr => ∃ (k : Nat) (cur : List Nat), m = .int .i64 (k : Int) ∧ k ≤ 1099511627776 ∧ Keep w wr g i cap A b cur ∧ cur ++ numL k = A ++ numL n) (fun _ m _ => (intOf m).toNat)
  case atStart => exact ⟨n, A, rfl, hn, HK.out, rfl⟩
  case round =>
    clear HK hz
    obtain ⟨k, cur, rfl, hk, hb, he⟩ := hrel
    have HKf := hide hb
    have HE := hide he
    have hcl : cur.length ≤ 2000000 := by
      have := congrArg List.length he
      rw [List.length_append, List.length_append] at this
      omega
    clear hb he
    by_cases hlt : k < 128
    · have hd : decide ((128 : Int) ≤ (k : Int)) = false := by simp; omega
      have HL := hide (numL_small k hlt)
      have HS := hide (src_one (heap_last wr (.cells #[.int .u8 (k : Int)] 5)) (by omega))
      have HB1 := hide (HKf.out.up (below_new wr (.cells #[.int .u8 (k : Int)] 5)))
      clear HKf
      as_aux_lemma =>
        go_wp2_with (refine wpList_append_kept (w := w) rfl (.tmp 19) (.tmp 22) rfl u0 g i cap A cur (some ⟨wr.heap.size, 0, none⟩) 1 1 [k] rfl rfl HB1.out HS.out (by omega) (fun h => by cases h) ?_)
        intro v2 w2 HB2
        refine of_hid ?_
        go_wp2
        go_ret
        refine ⟨v2, rfl, ?_⟩
        rw [← HE.out, HL.out]
        exact HB2.out
    · have hd : decide ((128 : Int) ≤ (k : Int)) = true := by simp; omega
      have HL := hide (numL_big k hlt)
      obtain ⟨x, hx⟩ : ∃ x, x = k % 128 + 128 := ⟨_, rfl⟩
      have hx8 : x < 256 := by omega
      have hxe : (k : Int) % 128 + 128 = (x : Int) := by omega
      have HX := hide hx
      clear hx
      have HS := hide (src_one (heap_last wr (.cells #[.int .u8 (x : Int)] 5)) hx8)
      have HB1 := hide (HKf.out.up (below_new wr (.cells #[.int .u8 (x : Int)] 5)))
      clear HKf
      as_aux_lemma =>
        go_wp2_with (refine wpList_append_kept (w := w) rfl (.tmp 10) (.tmp 15) rfl u0 g i cap A cur (some ⟨wr.heap.size, 0, none⟩) 1 1 [x] rfl rfl HB1.out HS.out (by omega) (fun h => by cases h) ?_)
        intro v2 w2 HB2
        refine of_hid ?_
        clear hxe
        go_wp2
        go_roundw
        case rel =>
          refine ⟨k / 128, cur ++ [x], congrArg (Value.int .i64) (by omega), by omega, HB2.out, ?_⟩
          rw [← HE.out, HL.out, HX.out]
          simp
        case measure => simp [intOf]; omega
theorem cl_eq (z : Int) : min (max z 0) 1099511627776 = ((cl z : Nat) : Int) ∧ cl z ≤ 1099511627776 := by
  unfold cl
  split
  · omega
  · split <;> omega
theorem num_keep (g i cap : Nat) (A : List Nat) (z : Int) (w : World) (hd : Dst w g i cap A) (hL : A.length ≤ 1000000) :
    Calls Tryd.prog 48 #[.slice (some ⟨g, 0, none⟩) i cap, .int .i64 z] w fun e w' => ∃ v', e = .returned v' ∧ Keep w w' g i cap A v' (A ++ numL (cl z)) :=
  num_mid g i cap A z (cl z) w hd hL (cl_eq z).1 (cl_eq z).2
end Go.Proofs.YtpaijhmbfljfmaaDoor.Bk
