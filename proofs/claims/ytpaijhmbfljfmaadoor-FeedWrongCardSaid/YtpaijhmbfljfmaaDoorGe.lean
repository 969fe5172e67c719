/- The feed's Add. -/
import Derived.Test.YtpaijhmbfljfmaaDoorGd
import Derived.OwnWalk
namespace Go.Proofs.YtpaijhmbfljfmaaDoor.Ge
set_option linter.unusedVariables false
set_option linter.unusedSimpArgs false
set_option maxRecDepth 100000
open Go.ChangeShapes Go.WideShapes Go.ChangeAt Go.RowKit
open Go.Proofs.YtpaijhmbfljfmaaDoor.Wu Go.Proofs.YtpaijhmbfljfmaaDoor.Sm Go.Proofs.YtpaijhmbfljfmaaDoor.Sh Go.Proofs.YtpaijhmbfljfmaaDoor.Ba Go.Proofs.YtpaijhmbfljfmaaDoor.Bp Go.Proofs.YtpaijhmbfljfmaaDoor.Bq Go.Proofs.YtpaijhmbfljfmaaDoor.Er Go.Proofs.YtpaijhmbfljfmaaDoor.Eu Go.Proofs.YtpaijhmbfljfmaaDoor.Ei Go.Proofs.YtpaijhmbfljfmaaDoor.Cv Go.Proofs.YtpaijhmbfljfmaaDoor.Cw Go.Proofs.YtpaijhmbfljfmaaDoor.Rk Go.Proofs.YtpaijhmbfljfmaaDoor.Fh Go.Proofs.YtpaijhmbfljfmaaDoor.Fi Go.Proofs.YtpaijhmbfljfmaaDoor.Ga Go.Proofs.YtpaijhmbfljfmaaDoor.Gb Go.Proofs.YtpaijhmbfljfmaaDoor.Gc Go.Proofs.YtpaijhmbfljfmaaDoor.Gd
attribute [local go_sem] kUpon_value kUpon_skip kUpon_enter
/-- Nothing has changed but block F and one other. -/
structure Kept (w w' : World) (F : Nat) (ho : Option Nat) : Prop where
  os : w'.os = w.os
  tape : w'.tape = w.tape
  output : w'.output = w.output
  size : w.heap.size ≤ w'.heap.size
  block : ∀ k, k < w.heap.size → k ≠ F → some k ≠ ho → w'.heap[k]? = w.heap[k]?
theorem Kept.refl (w : World) (F : Nat) (ho : Option Nat) : Kept w w F ho := ⟨rfl, rfl, rfl, Nat.le_refl _, fun _ _ _ _ => rfl⟩
theorem Kept.grown {w w1 w2 : World} {F : Nat} {ho row : Option Nat} (h : Kept w w1 F ho) (hg : w1.grownBy w2 row) (hr : ∀ k, row = some k → k = F ∨ some k = ho ∨ w.heap.size ≤ k) : Kept w w2 F ho :=
  ⟨hg.os.trans h.os, hg.tape.trans h.tape, hg.output.trans h.output, Nat.le_trans h.size hg.size, fun k hk h1 h2 =>
    (hg.block k (Nat.lt_of_lt_of_le hk h.size) (fun e => by rcases hr k e.symm with h | h | h; exact h1 h; exact h2 h; omega)).trans (h.block k hk h1 h2)⟩
theorem Kept.below {w w1 w2 : World} {F : Nat} {ho : Option Nat} (h : Kept w w1 F ho) (hb : Below w1.heap.size w1 w2) : Kept w w2 F ho :=
  h.grown (below_grown hb none) (fun k hk => by cases hk)
theorem Kept.toBelow {w0 w w' : World} {F N : Nat} {ho : Option Nat} (h : Kept w w' F ho) (hb : Below N w0 w) (hN : N ≤ w.heap.size) (hF : N ≤ F) (ho' : ∀ k, ho = some k → N ≤ k) : Below N w0 w' :=
  hb.trans ⟨h.os, h.tape, h.output, h.size, fun k hk => h.block k (by omega) (by omega) (fun e => by have := ho' k e.symm; omega)⟩
/-- A feed in memory. -/
structure FeedAt (w : World) (F : Nat) (v : Value) (N : Nat) (s : FS) : Prop where
  cells : Fc4 w F v s.read s.fa s.fe
  buf : Buf w v N s.held
  apart : v.ownBlock ≠ some F
theorem Buf.own {w : World} {v : Value} {N : Nat} {L : List Nat} (h : Buf w v N L) : ∀ g, v.ownBlock = some g → N ≤ g ∧ g < w.heap.size := by
  intro g hg
  rcases h with ⟨rfl, _⟩ | ⟨g', cap, rfl, h2, hd⟩
  · cases hg
  · injection hg with hg
    have hg : g' = g := hg
    subst hg
    exact ⟨h2, hd.lt⟩
theorem Buf.same {w w' : World} {v : Value} {N : Nat} {L : List Nat} (h : Buf w v N L) (hs : w.heap.size ≤ w'.heap.size) (hk : ∀ g, v.ownBlock = some g → w'.heap[g]? = w.heap[g]?) : Buf w' v N L := by
  rcases h with h | ⟨g, cap, h1, h2, hd⟩
  · exact .inl h
  · exact .inr ⟨g, cap, h1, h2, Dst.same hd (hk g (by rw [h1]; rfl)) hs⟩
theorem FeedAt.below {w w' : World} {F : Nat} {v : Value} {N : Nat} {s : FS} (h : FeedAt w F v N s) (hb : Below w.heap.size w w') : FeedAt w' F v N s :=
  ⟨h.cells.below hb, h.buf.up hb, h.apart⟩
theorem FeedAt.lt {w : World} {F : Nat} {v : Value} {N : Nat} {s : FS} (h : FeedAt w F v N s) : F < w.heap.size := heap_lt h.cells
/-- Another block turned. -/
theorem FeedAt.kept {w w' : World} {F k : Nat} {v : Value} {N : Nat} {s : FS} (h : FeedAt w F v N s) (hg : w.grownBy w' (some k)) (h1 : k ≠ F) (h2 : v.ownBlock ≠ some k) : FeedAt w' F v N s :=
  ⟨keepG hg (fun e => h1 e.symm) h.cells, Buf.same h.buf hg.size (fun g hg' => hg.block g (Buf.own h.buf g hg').2 (fun e => h2 (by rw [hg', e]))), h.apart⟩
def _root_.Go.Proofs.YtpaijhmbfljfmaaDoor.Gc.FS.after (s : FS) (L : List Nat) (z : Nat) (c p : Int) : FS := if c = 30 then ⟨L.drop z, s.read + z, s.fa, 0⟩ else ⟨[], s.read + z, ((s.read + z : Nat) : Int) + p, c⟩
/-- Bytes come to a feed. -/
def _root_.Go.Proofs.YtpaijhmbfljfmaaDoor.Gc.FS.next (s : FS) (B : List Nat) (s' : FS) (fs : List Fr) : Prop :=
  (s.fe ≠ 0 ∧ s' = s ∧ fs = []) ∨ (s.fe = 0 ∧ ∃ z c p, Fed (s.held ++ B) fs z c p ∧ s' = s.after (s.held ++ B) z c p)
def AddP (w : World) (F : Nat) (v : Value) (N : Nat) (s : FS) (B : List Nat) (e : Ending) (w' : World) : Prop :=
  ∃ u v' s' fs, e = .returned u ∧ s.next B s' fs ∧ FeedAt w' F v' N s' ∧ Frs w' u (fun g => w.heap.size ≤ g ∧ some g ≠ v'.ownBlock) fs ∧ Kept w w' F v.ownBlock ∧ (v'.ownBlock = v.ownBlock ∨ ∀ g, v'.ownBlock = some g → w.heap.size ≤ g)
theorem append_nil_none (w : World) (ty : TypeId) (a : Option Addr) (c : Nat) : (Builtin.append_ #[31, 31] ty #[.slice none 0 0, .slice a 0 c]).run Tryd.prog w = .ok (.slice none 0 0) w := by
  obtain ⟨i0, hi0, hz0, hz1, hz2⟩ := info_parts info_bs
  cases a <;> simp [Builtin.append_, run_underlying Tryd.underlying31, sizeOf, typeInfo, hi0, Builtin.lenOf, Builtin.firstCells, loadCells, loadCellsFrom, storeCells]
/-- append(buffer, bytes...), whatever both are. -/
theorem append_any (w : World) (ty : TypeId) (v : Value) (N : Nat) (L : List Nat) (A : Option Addr) (m c : Nat) (B : List Nat) (hb : Buf w v N L) (hN : N ≤ w.heap.size) (hs : SrcB w A m B) (hc : A = none → m = 0) (hbig : L.length + m ≤ 70368744177664) :
    ∃ v' w', (Builtin.append_ #[31, 31] ty #[v, .slice A m c]).run Tryd.prog w = .ok v' w' ∧ Buf w' v' N (L ++ B) ∧ w.grownBy w' v.ownBlock ∧ (v'.ownBlock = v.ownBlock ∨ v'.ownBlock = some w.heap.size) := by
  have hl := hs.1
  rcases hb with ⟨rfl, rfl⟩ | ⟨g, cap, rfl, hg, hd⟩
  · rcases Nat.eq_zero_or_pos m with h0 | h0
    · subst h0
      obtain rfl : B = [] := List.length_eq_zero_iff.1 hl
      exact ⟨_, _, append_nil_none w ty A c, .inl ⟨rfl, rfl⟩, World.grownBy.refl w _, .inl rfl⟩
    · cases A with
      | none => have := hc rfl; omega
      | some ad =>
        obtain ⟨cap', w', hr, hd, hb⟩ := append_nil_dst w ty ad m c B h0 hs (by simpa using hbig)
        refine ⟨_, _, hr, .inr ⟨w.heap.size, cap', ?_, hN, ?_⟩, below_grown hb _, .inr rfl⟩
        · rw [List.nil_append, hl]
        · rw [List.nil_append, hl]; exact hd
  · obtain ⟨g', cap', w', hr, hd', hG, hgg, -⟩ := append_dst w ty g L.length cap L A m c B hd hs hbig hc
    refine ⟨_, _, hr, .inr ⟨g', cap', ?_, ?_, ?_⟩, hG, ?_⟩
    · rw [List.length_append, hl]
    · have := hd.lt; rcases hgg with rfl | rfl <;> omega
    · rw [List.length_append, hl]; exact hd'
    · rcases hgg with rfl | rfl
      · exact .inl rfl
      · exact .inr rfl
theorem wpList_append_any {w : World} {ops : Array Oper} {rest : List Oper} {o : Oper} {a : Act} {Q : Exit → Act → World → Prop} (hgd : o.guard = none) (s x : Operand)
    (ho : o.op = .call { callee := .builtin .append, args := #[s, x], argTypes := #[31, 31] }) (v : Value) (N : Nat) (L : List Nat) (A : Option Addr) (m c : Nat) (B : List Nat)
    (hs : a.eval s = v) (hx : a.eval x = .slice A m c) (hb : Buf w v N L) (hN : N ≤ w.heap.size) (hsrc : SrcB w A m B) (hc : A = none → m = 0) (hbig : L.length + m ≤ 70368744177664)
    (h : ∀ v' w', Hid (Buf w' v' N (L ++ B)) → Hid (w.grownBy w' v.ownBlock) → Hid (v'.ownBlock = v.ownBlock ∨ v'.ownBlock = some w.heap.size) → Hid (wpList Tryd.prog ops Q rest (a.put o.dst v') w')) : wpList Tryd.prog ops Q (o :: rest) a w := by
  obtain ⟨v', w', hrun, h1, h2, h3⟩ := append_any w o.type v N L A m c B hb hN hsrc hc hbig
  refine wpList_plain hgd fun K hK => ?_
  unfold Oper.wp
  simp [execOp, ho, resolve, invoke, builtin, hs, hx, hrun, Result.andThen]
  exact hK _ _ (h v' w' h1 h2 h3)
theorem add_broken (w : World) (F : Nat) (v : Value) (N : Nat) (s : FS) (x : Value) (B : List Nat) (h : FeedAt w F v N s) (hfe : s.fe ≠ 0) :
    Calls Tryd.prog 22 #[.pointer (some ⟨F, 0, none⟩), x] w (AddP w F v N s B) := by
  have HB := hide (broken_c h.cells)
  have HP : Hid (AddP w F v N s B (.returned (.slice none 0 0)) w) := hide ⟨_, v, s, [], rfl, .inl ⟨hfe, rfl, rfl⟩, h, Frs.nil _ _, Kept.refl _ _ _, .inl rfl⟩
  have hb : (s.fe != 0) = true := by simp [hfe]
  rw [hb] at HB
  clear h hfe hb
  go_enter Tryd.func22, Tryd.ntmps22
  go_wp2_with fail
  refine HB.out.mono ?_
  rintro e w1 ⟨rfl, rfl⟩
  go_wp2
  go_ret
  exact HP.out
/-- What holds at the head of Add's loop. -/
structure Inv (w : World) (F : Nat) (v0 v1 : Value) (N : Nat) (s : FS) (L : List Nat) (fs : List Fr) (z : Nat) (list : Value) (ra : Option Addr) (rc : Nat) (wr : World) : Prop where
  done : Done L fs z
  fit : L.length - z ≤ rc
  src : SrcB wr ra (L.length - z) (L.drop z)
  own : ∀ ad, ra = some ad → some ad.block = v1.ownBlock
  non : ra = none → L = []
  cells : Fc4 wr F v1 (s.read + z) s.fa 0
  buf : Buf wr v1 N L
  apart : v1.ownBlock ≠ some F
  frs : Frs wr list (fun g => w.heap.size ≤ g ∧ some g ≠ v1.ownBlock) fs
  kept : Kept w wr F v0.ownBlock
  F : F < w.heap.size
theorem Inv.up {w wr wr' : World} {F : Nat} {v0 v1 : Value} {N : Nat} {s : FS} {L : List Nat} {fs : List Fr} {z : Nat} {list : Value} {ra : Option Addr} {rc : Nat} (h : Inv w F v0 v1 N s L fs z list ra rc wr) (hb : Below wr.heap.size wr wr') : Inv w F v0 v1 N s L fs z list ra rc wr' :=
  ⟨h.done, h.fit, h.src.below hb, h.own, h.non, h.cells.below hb, h.buf.up hb, h.apart, h.frs.below hb, h.kept.below hb, h.F⟩
theorem ret_bad {w wr w2 : World} {F : Nat} {v0 v1 : Value} {N : Nat} {s : FS} {H B : List Nat} {fs : List Fr} {z : Nat} {list : Value} {ra : Option Addr} {rc : Nat} (h : Inv w F v0 v1 N s (s.held ++ B) fs z list ra rc wr) (hfe : s.fe = 0) {c p : Int} (hR : readR ((s.held ++ B).drop z) = .bad c p) (hc : c ≠ 30)
    (h1 : Fc4 w2 F (.slice none 0 0) (s.read + z) (((s.read + z : Nat) : Int) + p) c) (h2 : wr.grownBy w2 (some F)) : AddP w F v0 N s B (.returned list) w2 := by
  refine ⟨list, .slice none 0 0, s.after (s.held ++ B) z c p, fs, rfl, .inr ⟨hfe, z, c, p, h.done.stop hR, rfl⟩, ?_, ?_, h.kept.grown h2 (fun k hk => .inl (by injection hk with hk; exact hk.symm)), .inr (fun g hg => by cases hg)⟩
  · unfold FS.after
    rw [if_neg hc]
    exact ⟨h1, .inl ⟨rfl, rfl⟩, fun h => by cases h⟩
  · have hF := h.F
    exact h.frs.same h2.size (fun g hg hl => ⟨⟨hg.1, fun e => by cases e⟩, h2.block g hl (fun e => by injection e with e; have := hg.1; omega)⟩)
theorem ret_keep {w wr : World} {F : Nat} {v0 v1 : Value} {N : Nat} {s : FS} {B : List Nat} {fs : List Fr} {list : Value} {ra : Option Addr} {rc : Nat} (h : Inv w F v0 v1 N s (s.held ++ B) fs 0 list ra rc wr) (hfe : s.fe = 0) (hv : v1.ownBlock = v0.ownBlock ∨ ∀ g, v1.ownBlock = some g → w.heap.size ≤ g) {p : Int} (hR : readR (s.held ++ B) = .bad 30 p) : AddP w F v0 N s B (.returned list) wr := by
  refine ⟨list, v1, s.after (s.held ++ B) 0 30 p, fs, rfl, .inr ⟨hfe, 0, 30, p, h.done.stop (by simpa using hR), rfl⟩, ?_, h.frs, h.kept, hv⟩
  unfold FS.after
  rw [if_pos rfl]
  exact ⟨h.cells, by simpa using h.buf, h.apart⟩
theorem ret_cut {w wr w2 : World} {F g cap rm : Nat} {v0 v1 : Value} {N : Nat} {s : FS} {B : List Nat} {fs : List Fr} {z : Nat} {list : Value} {ra : Option Addr} {rc : Nat} (h : Inv w F v0 v1 N s (s.held ++ B) fs z list ra rc wr) (hfe : s.fe = 0) {p : Int} (hR : readR ((s.held ++ B).drop z) = .bad 30 p)
    (hN : N ≤ w.heap.size) (hrm : rm = ((s.held ++ B).drop z).length) (h1 : Fc4 w2 F (.slice (some ⟨g, 0, none⟩) rm cap) (s.read + z) s.fa 0) (hg : wr.heap.size ≤ g) (hd : Dst w2 g rm cap ((s.held ++ B).drop z)) (h2 : wr.grownBy w2 (some F)) : AddP w F v0 N s B (.returned list) w2 := by
  subst hrm
  have hF := h.F
  have hk := h.kept.size
  refine ⟨list, .slice (some ⟨g, 0, none⟩) ((s.held ++ B).drop z).length cap, s.after (s.held ++ B) z 30 p, fs, rfl, .inr ⟨hfe, z, 30, p, h.done.stop hR, rfl⟩, ?_, ?_, h.kept.grown h2 (fun k hk => .inl (by injection hk with hk; exact hk.symm)), .inr (fun g' hg' => by injection hg' with hg'; have hg' : g = g' := hg'; omega)⟩
  · unfold FS.after
    rw [if_pos rfl]
    exact ⟨h1, .inr ⟨g, cap, rfl, by omega, hd⟩, fun e => by injection e with e; have e : g = F := e; omega⟩
  · exact h.frs.same h2.size (fun g' hg' hl => ⟨⟨hg'.1, fun e => by injection e with e; have e : g' = g := e; omega⟩, h2.block g' hl (fun e => by injection e with e; have := hg'.1; omega)⟩)
end Go.Proofs.YtpaijhmbfljfmaaDoor.Ge
