/- A buffer of the call's own, nil at first: append to it. -/
import Derived.Test.YtpaijhmbfljfmaaDoorBp
namespace Go.Proofs.YtpaijhmbfljfmaaDoor.Bq
set_option linter.unusedVariables false
set_option linter.unusedSimpArgs false
set_option maxRecDepth 100000
open Go.RowKit
open Go.Proofs.YtpaijhmbfljfmaaDoor.Wu Go.Proofs.YtpaijhmbfljfmaaDoor.Sm Go.Proofs.YtpaijhmbfljfmaaDoor.Sh Go.Proofs.YtpaijhmbfljfmaaDoor.Ba Go.Proofs.YtpaijhmbfljfmaaDoor.Bp

/-- The slice v has the bytes L: nil, or a row in a block that isn't below N. -/
def Buf (w : World) (v : Value) (N : Nat) (L : List Nat) : Prop :=
  (v = .slice none 0 0 ∧ L = []) ∨ ∃ g cap, v = .slice (some ⟨g, 0, none⟩) L.length cap ∧ N ≤ g ∧ Dst w g L.length cap L
theorem Buf.all {w : World} {v : Value} {N : Nat} {L : List Nat} (h : Buf w v N L) : All8 L := by
  rcases h with ⟨_, rfl⟩ | ⟨g, cap, _, _, hd⟩
  · exact all8_nil
  · exact hd.all
theorem Buf.up {w w' : World} {v : Value} {N : Nat} {L : List Nat} (h : Buf w v N L) (hb : Below w.heap.size w w') : Buf w' v N L := by
  rcases h with h | ⟨g, cap, h1, h2, hd⟩
  · exact .inl h
  · exact .inr ⟨g, cap, h1, h2, hd.below hb hd.lt⟩
theorem Buf.form {w : World} {v : Value} {N : Nat} {L : List Nat} (h : Buf w v N L) : ∃ a cap, v = .slice a L.length cap ∧ SrcB w a L.length L ∧ L.length ≤ cap ∧ cap ≤ maxLen ∧ (a = none → L.length = 0 ∧ cap = 0) := by
  rcases h with ⟨rfl, rfl⟩ | ⟨g, cap, rfl, _, hd⟩
  · exact ⟨none, 0, rfl, SrcB.nil w none, Nat.le_refl _, Nat.zero_le _, fun _ => ⟨rfl, rfl⟩⟩
  · exact ⟨some ⟨g, 0, none⟩, cap, rfl, hd.src, hd.fit, hd.max, fun h => by cases h⟩
theorem append_nil_dst (w : World) (ty : TypeId) (ad : Addr) (m c : Nat) (L' : List Nat) (hm : 0 < m) (hs : SrcB w (some ad) m L') (hbig : m ≤ 70368744177664) :
    ∃ cap' w', (Builtin.append_ #[31, 31] ty #[.slice none 0 0, .slice (some ad) m c]).run Tryd.prog w = .ok (.slice (some ⟨w.heap.size, 0, none⟩) m cap') w' ∧ Dst w' w.heap.size m cap' L' ∧ Below w.heap.size w w' := by
  obtain ⟨i0, hi0, hz0, hz1, hz2⟩ := info_parts info_bs
  obtain ⟨hl, h8, b, off, ha, hcell⟩ := hs
  have hnews : ∀ j u, (b8 L')[j]? = some u → w.cell? (ad.add j) = some u := by
    intro j u hu
    obtain ⟨hj, rfl⟩ := b8_at hu
    have := ha hm
    injection this with this
    subst this
    rw [Addr.add_mid]
    exact hcell j (by omega)
  have hr := run_append_nil (P := Tryd.prog) w 31 ty 5 i0 (.int .u8 0) Tryd.underlying31 hi0 hz0 ad m c (b8 L') (by rw [b8_length, hl, hz1, Nat.mul_one]) hnews hm (by omega) (by rw [hz2]; omega)
  have hge := grownCap_ge w m 0 5
  have hle := grownCap_le_maxLen w m 0 5 (by unfold maxLen; omega)
  generalize grownCap w m 0 5 = q at hr hge hle
  have hzs : (Builtin.zeroCells (Value.int .u8 0).cells (q - m)).size = q - m := by rw [size_zeroCells]; simp [Value.cells]
  generalize Builtin.zeroCells (Value.int .u8 0).cells (q - m) = Z at hr hzs
  have hn := dst_new w.drew L' Z 5 (0, 0) rfl h8 (by rw [hl, hzs]; omega)
  rw [hl, hzs, show m + (q - m) = q by omega] at hn
  exact ⟨q, _, hr, hn, (Below.refl _ _).drew.alloc (Nat.le_refl _) _⟩
theorem append_buf (w : World) (ty : TypeId) (v : Value) (N : Nat) (L : List Nat) (A : Option Addr) (m c : Nat) (L' : List Nat) (hb : Buf w v N L) (hN : N ≤ w.heap.size) (hs : SrcB w A m L') (hc : A = none → m = 0) (hbig : L.length + m ≤ 70368744177664) (hm : 0 < m) :
    ∃ v' w', (Builtin.append_ #[31, 31] ty #[v, .slice A m c]).run Tryd.prog w = .ok v' w' ∧ Buf w' v' N (L ++ L') ∧ Below N w w' := by
  have hl := hs.1
  rcases hb with ⟨rfl, rfl⟩ | ⟨g, cap, rfl, hg, hd⟩
  · cases A with
    | none => have := hc rfl; omega
    | some ad =>
      obtain ⟨cap', w', hr, hd, hb⟩ := append_nil_dst w ty ad m c L' hm hs (by simpa using hbig)
      refine ⟨_, _, hr, .inr ⟨w.heap.size, cap', ?_, hN, ?_⟩, hb.mono hN⟩
      · rw [List.nil_append, hl]
      · rw [List.nil_append, hl]; exact hd
  · obtain ⟨g', cap', w', hr, hd', hG, hgg, -⟩ := append_dst w ty g L.length cap L A m c L' hd hs hbig hc
    refine ⟨_, _, hr, .inr ⟨g', cap', ?_, ?_, ?_⟩, ?_⟩
    · rw [List.length_append, hl]
    · rcases hgg with rfl | rfl <;> omega
    · rw [List.length_append, hl]; exact hd'
    · exact ⟨hG.os, hG.tape, hG.output, hG.size, fun k hk => hG.block k (by omega) (fun e => by injection e with e; omega)⟩
/-- append as a step of the walk. -/
theorem wpList_append_buf {w : World} {ops : Array Oper} {rest : List Oper} {o : Oper} {a : Act} {Q : Exit → Act → World → Prop} (hgd : o.guard = none) (s x : Operand)
    (ho : o.op = .call { callee := .builtin .append, args := #[s, x], argTypes := #[31, 31] }) (v : Value) (N : Nat) (L : List Nat) (A : Option Addr) (m c : Nat) (L' : List Nat)
    (hs : a.eval s = v) (hx : a.eval x = .slice A m c) (hb : Buf w v N L) (hN : N ≤ w.heap.size) (hsrc : SrcB w A m L') (hc : A = none → m = 0) (hbig : L.length + m ≤ 70368744177664) (hm : 0 < m)
    (h : ∀ v' w', Hid (Buf w' v' N (L ++ L')) → Hid (Below N w w') → Hid (wpList Tryd.prog ops Q rest (a.put o.dst v') w')) : wpList Tryd.prog ops Q (o :: rest) a w := by
  obtain ⟨v', w', hrun, h1, h2⟩ := append_buf w o.type v N L A m c L' hb hN hsrc hc hbig hm
  refine wpList_plain hgd fun K hK => ?_
  unfold Oper.wp
  simp [execOp, ho, resolve, invoke, builtin, hs, hx, hrun, Result.andThen]
  exact hK _ _ (h v' w' h1 h2)
theorem src_one {w : World} {B : Nat} {x : Nat} {T : TypeId} {f : Nat × Nat} (h : w.heap[B]? = some (.cells #[.int .u8 (x : Int)] T f)) (hx : x < 256) : SrcB w (some ⟨B, 0, none⟩) 1 [x] :=
  ⟨rfl, by intro z hz; simp only [List.mem_singleton] at hz; omega, B, 0, fun _ => rfl, fun i hi => by
    obtain rfl : i = 0 := by omega
    exact blk_cell h rfl⟩
end Go.Proofs.YtpaijhmbfljfmaaDoor.Bq
