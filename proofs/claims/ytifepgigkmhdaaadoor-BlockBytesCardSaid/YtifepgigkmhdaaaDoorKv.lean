/- code.Num onto a buffer of the call's own: nothing else that lay there turns. -/
import Derived.Test.YtifepgigkmhdaaaDoorCn
namespace Go.Proofs.YtifepgigkmhdaaaDoor.Kv
set_option linter.unusedVariables false
set_option linter.unusedSimpArgs false
set_option maxRecDepth 100000
open Go.ChangeShapes Go.WideShapes Go.ChangeAt Go.RowKit
open Go.Proofs.YtifepgigkmhdaaaDoor.Wu Go.Proofs.YtifepgigkmhdaaaDoor.Sm Go.Proofs.YtifepgigkmhdaaaDoor.Sh Go.Proofs.YtifepgigkmhdaaaDoor.Ba Go.Proofs.YtifepgigkmhdaaaDoor.Bp Go.Proofs.YtifepgigkmhdaaaDoor.Bq Go.Proofs.YtifepgigkmhdaaaDoor.Cm Go.Proofs.YtifepgigkmhdaaaDoor.Cn
/-- append: just the buffer's own block turns, or there is a new one. -/
theorem append_own (w : World) (ty : TypeId) (v : Value) (N : Nat) (L : List Nat) (A : Option Addr) (m c : Nat) (L' : List Nat) (hb : Buf w v N L) (hN : N ≤ w.heap.size) (hs : SrcB w A m L') (hc : A = none → m = 0) (hbig : L.length + m ≤ 70368744177664) (hm : 0 < m ∨ 0 < L.length) :
    ∃ v' w', (Builtin.append_ #[22, 22] ty #[v, .slice A m c]).run Tryd.prog w = .ok v' w' ∧ Buf w' v' N (L ++ L') ∧ w.grownBy w' v.ownBlock ∧ (v'.ownBlock = v.ownBlock ∨ v'.ownBlock = some w.heap.size) := by
  have hl := hs.1
  rcases hb with ⟨rfl, rfl⟩ | ⟨g, cap, rfl, hg, hd⟩
  · have hm0 : 0 < m := by rcases hm with h | h; exact h; simp at h
    cases A with
    | none => have := hc rfl; omega
    | some ad =>
      obtain ⟨cap', w', hr, hd, hb⟩ := append_nil_dst w ty ad m c L' hm0 hs (by simpa using hbig)
      refine ⟨_, _, hr, .inr ⟨w.heap.size, cap', ?_, hN, ?_⟩, ⟨hb.os, hb.tape, hb.output, hb.size, fun k hk _ => hb.block k hk⟩, .inr rfl⟩
      · rw [List.nil_append, hl]
      · rw [List.nil_append, hl]; exact hd
  · obtain ⟨g', cap', w', hr, hd', hG, hgg, -⟩ := append_dst w ty g L.length cap L A m c L' hd hs hbig hc
    refine ⟨_, _, hr, .inr ⟨g', cap', ?_, ?_, ?_⟩, hG, ?_⟩
    · rw [List.length_append, hl]
    · rcases hgg with rfl | rfl <;> omega
    · rw [List.length_append, hl]; exact hd'
    · rcases hgg with rfl | rfl
      · exact .inl rfl
      · exact .inr rfl
theorem wpList_append_own {w : World} {ops : Array Oper} {rest : List Oper} {o : Oper} {a : Act} {Q : Exit → Act → World → Prop} (hgd : o.guard = none) (s x : Operand)
    (ho : o.op = .call { callee := .builtin .append, args := #[s, x], argTypes := #[22, 22] }) (v : Value) (N : Nat) (L : List Nat) (A : Option Addr) (m c : Nat) (L' : List Nat)
    (hs : a.eval s = v) (hx : a.eval x = .slice A m c) (hb : Buf w v N L) (hN : N ≤ w.heap.size) (hsrc : SrcB w A m L') (hc : A = none → m = 0) (hbig : L.length + m ≤ 70368744177664) (hm : 0 < m ∨ 0 < L.length)
    (h : ∀ v' w', Hid (Buf w' v' N (L ++ L')) → Hid (w.grownBy w' v.ownBlock) → Hid (v'.ownBlock = v.ownBlock ∨ v'.ownBlock = some w.heap.size) → Hid (wpList Tryd.prog ops Q rest (a.put o.dst v') w')) : wpList Tryd.prog ops Q (o :: rest) a w := by
  obtain ⟨v', w', hrun, h1, h2, h3⟩ := append_own w o.type v N L A m c L' hb hN hsrc hc hbig hm
  refine wpList_plain hgd fun K hK => ?_
  unfold Oper.wp
  simp [execOp, ho, resolve, invoke, builtin, hs, hx, hrun, Result.andThen]
  exact hK _ _ (h v' w' h1 h2 h3)
theorem buf_own {w : World} {v : Value} {N : Nat} {L : List Nat} (h : Buf w v N L) : ∀ g, v.ownBlock = some g → N ≤ g ∧ g < w.heap.size := by
  intro g hg
  rcases h with ⟨rfl, _⟩ | ⟨g', cap, rfl, h1, h2⟩
  · cases hg
  · injection hg with hg
    subst hg
    exact ⟨h1, h2.lt⟩
/-- From w0 on, when the buffer was v0, nothing else has turned; the buffer is b now. -/
structure Ow (w0 : World) (v0 : Value) (N : Nat) (u : World) (b : Value) : Prop where
  below : Below N w0 u
  size : w0.heap.size ≤ u.heap.size
  keep : ∀ k, k < w0.heap.size → v0.ownBlock ≠ some k → u.heap[k]? = w0.heap[k]?
  own : b.ownBlock = v0.ownBlock ∨ ∀ g, b.ownBlock = some g → w0.heap.size ≤ g
theorem Ow.refl (w0 : World) (v0 : Value) (N : Nat) : Ow w0 v0 N w0 v0 := ⟨Below.refl _ _, Nat.le_refl _, fun _ _ _ => rfl, .inl rfl⟩
theorem Ow.alloc {w0 : World} {v0 : Value} {N : Nat} {u : World} {b : Value} (h : Ow w0 v0 N u b) (hN : N ≤ u.heap.size) (o : Obj) : Ow w0 v0 N (u.alloc o) b :=
  ⟨h.below.alloc hN o, by simp; have := h.size; omega, fun k hk hv => (Below.heap_alloc u o k (Nat.lt_of_lt_of_le hk h.size)).trans (h.keep k hk hv), h.own⟩
theorem Ow.append {w0 : World} {v0 : Value} {N : Nat} {u u' : World} {b b' : Value} (h : Ow w0 v0 N u b) (hN : N ≤ u.heap.size) (hb : ∀ g, b.ownBlock = some g → N ≤ g) (hg : u.grownBy u' b.ownBlock) (ho : b'.ownBlock = b.ownBlock ∨ b'.ownBlock = some u.heap.size) : Ow w0 v0 N u' b' := by
  refine ⟨h.below.grown hg hN hb, Nat.le_trans h.size hg.size, fun k hk hv => ?_, ?_⟩
  · rw [hg.block k (Nat.lt_of_lt_of_le hk h.size) (fun e => ?_)]
    · exact h.keep k hk hv
    · rcases h.own with h1 | h1
      · exact hv (by rw [← h1]; exact e.symm)
      · have := h1 k e.symm; omega
  · rcases ho with e | e
    · rw [e]; exact h.own
    · right
      intro g hg'
      rw [e] at hg'
      injection hg' with hg'
      have := h.size
      omega
set_option maxHeartbeats 1600000 in
theorem num_k (v : Value) (N : Nat) (L : List Nat) (n : Nat) (w : World) (hb : Buf w v N L) (hN : N ≤ w.heap.size) (hn : n ≤ 1099511627776) (hL : L.length ≤ 1000000) :
    Calls Tryd.prog 56 #[v, .int .i64 (n : Int)] w fun e w' => ∃ v', e = .returned v' ∧ Buf w' v' N (L ++ numL n) ∧ Ow w v N w' v' := by
  have HB := hide hb
  clear hb
  have d1 : ¬ ((n : Int) < 0) := by omega
  have d2 : ¬ (1099511627776 < (n : Int)) := by omega
  have d3 := numL_six n hn
  go_enter Tryd.func56, Tryd.ntmps56
  go_wp2_with fail
  go_loopw [0, 1] (fun b m wr => ∃ (k : Nat) (cur : List Nat), m = .int .i64 (k : Int) ∧ k ≤ 1099511627776 ∧ Buf wr b N cur ∧ cur ++ numL k = L ++ numL n ∧ N ≤ wr.heap.size ∧ Ow w v N wr b) (fun _ m _ => (intOf m).toNat)
  case atStart => exact ⟨n, L, rfl, hn, HB.out, rfl, hN, Ow.refl _ _ _⟩
  case round =>
    clear HB
    obtain ⟨k, cur, rfl, hk, hb, he, hNr, hB⟩ := hrel
    have HBf := hide hb
    have HE := hide he
    have HB := hide hB
    have hcl : cur.length ≤ 2000000 := by
      have := congrArg List.length he
      rw [List.length_append, List.length_append] at this
      omega
    clear hb he hB
    by_cases hlt : k < 128
    · have hd : decide ((128 : Int) ≤ (k : Int)) = false := by simp; omega
      have HL := hide (numL_small k hlt)
      have HS := hide (src_one (heap_last wr (.cells #[.int .u8 (k : Int)] 5)) (by omega))
      have HB1 := hide (HBf.out.up (below_new wr (.cells #[.int .u8 (k : Int)] 5)))
      have HBl := hide (HB.out.alloc hNr (.cells #[.int .u8 (k : Int)] 5))
      have hN1 : N ≤ (wr.alloc (.cells #[.int .u8 (k : Int)] 5)).heap.size := by simp; omega
      have Hlow := hide (fun g (hg : u0.ownBlock = some g) => (buf_own HBf.out g hg).1)
      clear HBf HB
      as_aux_lemma =>
        go_wp2_with (refine wpList_append_own rfl (.tmp 19) (.tmp 22) rfl u0 N cur (some ⟨wr.heap.size, 0, none⟩) 1 1 [k] rfl rfl HB1.out hN1 HS.out (fun h => by cases h) (by omega) (.inl (by omega)) ?_)
        intro v2 w2 HB2 HG2 HO2
        refine of_hid ?_
        go_wp2
        go_ret
        refine ⟨v2, rfl, ?_, HBl.out.append hN1 Hlow.out HG2.out (by simpa using HO2.out)⟩
        rw [← HE.out, HL.out]
        exact HB2.out
    · have hd : decide ((128 : Int) ≤ (k : Int)) = true := by simp; omega
      have HL := hide (numL_big k hlt)
      obtain ⟨x, hx⟩ : ∃ x, x = k % 128 + 128 := ⟨_, rfl⟩
      have hx8 : x < 256 := by omega
      have hxe : (k : Int) % 128 + 128 = (x : Int) := by omega
      have HX := hide hx
      clear hx
      have HS := hide (src_one (heap_last wr (.cells #[.int .u8 (x : Int)] 5)) hx8)
      have HB1 := hide (HBf.out.up (below_new wr (.cells #[.int .u8 (x : Int)] 5)))
      have HBl := hide (HB.out.alloc hNr (.cells #[.int .u8 (x : Int)] 5))
      have hN1 : N ≤ (wr.alloc (.cells #[.int .u8 (x : Int)] 5)).heap.size := by simp; omega
      have Hlow := hide (fun g (hg : u0.ownBlock = some g) => (buf_own HBf.out g hg).1)
      clear HBf HB
      as_aux_lemma =>
        go_wp2_with (refine wpList_append_own rfl (.tmp 10) (.tmp 15) rfl u0 N cur (some ⟨wr.heap.size, 0, none⟩) 1 1 [x] rfl rfl HB1.out hN1 HS.out (fun h => by cases h) (by omega) (.inl (by omega)) ?_)
        intro v2 w2 HB2 HG2 HO2
        refine of_hid ?_
        clear hxe
        go_wp2
        go_roundw
        case rel =>
          refine ⟨k / 128, cur ++ [x], congrArg (Value.int .i64) (by omega), by omega, HB2.out, ?_, Nat.le_trans hN1 HG2.out.size, HBl.out.append hN1 Hlow.out HG2.out (by simpa using HO2.out)⟩
          rw [← HE.out, HL.out, HX.out]
          simp
        case measure => simp [intOf]; omega
end Go.Proofs.YtifepgigkmhdaaaDoor.Kv
